/- Slices of numbers, of yes and no, and of texts among a law's arguments, opened as lists. Whatever program. -/
import Derived.Test.YtmonfkiakjaimaaNums
import Derived.Test.YtmonfkiakjaimaaPost
import Derived.ChangeSlices
import Derived.Deep.Grids
import Derived.SliceStrings
namespace Go.Proofs.Ytmonfkiakjaimaa
open Go.ChangeShapes Go.WideShapes Go.ChangeAt Go.RowKit

/-- A slice that came in, by its elements. -/
def ListIn {α : Type} (f : α → Value) (W : World) (a : Option Addr) (L : List α) : Prop := ∀ (k : Nat) x, L[k]? = some x → ∃ b off, a = some ⟨b, off, none⟩ ∧ b < W.heap.size ∧ W.cell? ⟨b, off + k, none⟩ = some (f x)
theorem ListIn.below {α : Type} {f : α → Value} {W W' : World} {a : Option Addr} {L : List α} (h : ListIn f W a L) (hb : Below W.heap.size W W') : ListIn f W' a L := fun k x hx => by
  obtain ⟨b, off, ha, hlt, hc⟩ := h k x hx
  exact ⟨b, off, ha, Nat.lt_of_lt_of_le hlt hb.size, (hb.cell (p := ⟨b, off + k, none⟩) hlt).trans hc⟩
theorem ListIn.at {α : Type} {f : α → Value} {W : World} {a : Option Addr} {L : List α} (h : ListIn f W a L) (k : Nat) (hk : k < L.length) : ∃ b off, a = some ⟨b, off, none⟩ ∧ b < W.heap.size ∧ W.cell? ⟨b, off + k, none⟩ = some (f L[k]) := h k _ (List.getElem?_eq_getElem hk)

/-- The last step: out of the cells of a row. -/
theorem listIn_row {α : Type} {f : α → Value} {W : World} {a : Addr} {cap : Nat} {L : List α} (hcap : L.length ≤ cap) (hlt : ∀ x ∈ MemPlace.row a cap, x.block < W.heap.size) (hc : ∀ k x, L[k]? = some x → W.cell? (a.add k) = some (f x)) : ListIn f W (some a) L := fun k x hx => by
  have hk : k < L.length := (List.getElem?_eq_some_iff.1 hx).1
  obtain ⟨b, off, spot⟩ := a
  obtain ⟨y, hy⟩ : ∃ y, L[0]? = some y := ⟨L[0], List.getElem?_eq_getElem (by omega)⟩
  have hspot : spot = none := by simpa [Addr.add] using World.cell?_spot (hc 0 y hy)
  subst hspot
  refine ⟨b, off, rfl, hlt (.cell b off) (MemPlace.mem_row.2 ⟨0, by omega, by simp⟩), ?_⟩
  have := hc k x hx
  rwa [addr_add] at this

theorem open_nums {H : Type} {enc : TypeId × Value → H} {P : Program} {t e : TypeId} (ht : P.underlying t = some (.slice e)) (he : P.underlying e = some (.int .i64)) (hc : P.cellsOf e = 1) {W : World} {a : Option Addr} {len cap : Nat} {d : DataW H} {ps : List MemPlace}
    (h : DataW.Trod enc P W 0 (fun _ => true) true t (.slice a len cap) d ps) (hlt : ∀ x ∈ ps, x.block < W.heap.size) : ∃ L : List Int, L.length = len ∧ ListIn numV W a L := by
  obtain ⟨fuel, hf⟩ := h
  rcases open_ints ht he hc hf with ⟨hcs, hx⟩ | ⟨a', len', cap', zs, hcs, _, hl, hm, hz, hx, hcell, _⟩
  · simp [Value.cells] at hcs
    obtain ⟨rfl, rfl, rfl⟩ := hcs
    exact ⟨[], rfl, fun i x hx => by simp at hx⟩
  · simp [Value.cells] at hcs
    obtain ⟨rfl, rfl, rfl⟩ := hcs
    simp only [Prod.mk.injEq] at hx
    obtain ⟨rfl, rfl⟩ := hx
    simp only [if_true] at hz
    rw [hz] at hlt
    refine ⟨zs.take len, by simp; omega, listIn_row (by simp; omega) hlt fun k x hx => ?_⟩
    have hk : k < len := by
      have := (List.getElem?_eq_some_iff.1 hx).1; simp at this; omega
    rw [List.getElem?_take_of_lt hk] at hx
    have := hcell k (by omega)
    rw [List.getD, hx] at this
    exact this
theorem open_flags {H : Type} {enc : TypeId × Value → H} {P : Program} {t e : TypeId} (ht : P.underlying t = some (.slice e)) (he : P.underlying e = some .bool) (hc : P.cellsOf e = 1) {W : World} {a : Option Addr} {len cap : Nat} {d : DataW H} {ps : List MemPlace}
    (h : DataW.Trod enc P W 0 (fun _ => true) true t (.slice a len cap) d ps) (hlt : ∀ x ∈ ps, x.block < W.heap.size) : ∃ L : List Bool, L.length = len ∧ ListIn Value.bool W a L := by
  obtain ⟨fuel, hf⟩ := h
  rcases Go.Deep.open_bools ht he hc hf with ⟨hcs, hx⟩ | ⟨a', len', cap', B, hcs, _, hl, hm, hx, hcell⟩
  · simp [Value.cells] at hcs
    obtain ⟨rfl, rfl, rfl⟩ := hcs
    exact ⟨[], rfl, fun i x hx => by simp at hx⟩
  · simp [Value.cells] at hcs
    obtain ⟨rfl, rfl, rfl⟩ := hcs
    simp only [Prod.mk.injEq] at hx
    obtain ⟨rfl, rfl⟩ := hx
    refine ⟨(List.range len).map B, by simp, listIn_row (by simp; omega) hlt fun k x hx => ?_⟩
    have hk : k < len := by
      have := (List.getElem?_eq_some_iff.1 hx).1; simpa using this
    have := hcell k (by omega)
    simp [hk] at hx
    rw [this, hx]
theorem open_keys {H : Type} {enc : TypeId × Value → H} {P : Program} {t e : TypeId} (ht : P.underlying t = some (.slice e)) (he : P.underlying e = some .string) (hc : P.cellsOf e = 1) {W : World} {a : Option Addr} {len cap : Nat} {d : DataW H} {ps : List MemPlace}
    (h : DataW.Trod enc P W 0 (fun _ => true) true t (.slice a len cap) d ps) (hlt : ∀ x ∈ ps, x.block < W.heap.size) : ∃ L : List ByteArray, L.length = len ∧ ListIn Value.string W a L := by
  obtain ⟨fuel, hf⟩ := h
  rcases open_strings ht he hc hf with ⟨hcs, hx⟩ | ⟨a', len', cap', ss, hcs, _, hl, hm, hz, hx, hcell, _⟩
  · simp [Value.cells] at hcs
    obtain ⟨rfl, rfl, rfl⟩ := hcs
    exact ⟨[], rfl, fun i x hx => by simp at hx⟩
  · simp [Value.cells] at hcs
    obtain ⟨rfl, rfl, rfl⟩ := hcs
    simp only [Prod.mk.injEq] at hx
    obtain ⟨rfl, rfl⟩ := hx
    simp only [if_true] at hz
    rw [hz] at hlt
    refine ⟨ss.take len, by simp; omega, listIn_row (by simp; omega) hlt fun k x hx => ?_⟩
    have hk : k < len := by
      have := (List.getElem?_eq_some_iff.1 hx).1; simp at this; omega
    rw [List.getElem?_take_of_lt hk] at hx
    have := hcell k (by omega)
    rw [List.getD, hx] at this
    exact this

end Go.Proofs.Ytmonfkiakjaimaa
