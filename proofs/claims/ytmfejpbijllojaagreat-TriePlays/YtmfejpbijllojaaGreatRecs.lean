/- A slice of structs among a law's arguments, by the cells of its elements. Whatever program. -/
import Derived.Test.YtmfejpbijllojaaGreatPost
import Derived.Deep.Slices
import Derived.Deep.Fields
import Derived.ChangeSame
namespace Go.Proofs.YtmfejpbijllojaaGreat
open Go.ChangeShapes Go.WideShapes Go.ChangeAt Go.RowKit Go.Deep

/-- A slice that came in, by its elements, each of c cells. -/
def RecsIn {α : Type} (c : Nat) (f : α → List Value) (W : World) (a : Option Addr) (L : List α) : Prop :=
  ∀ (k : Nat) x, L[k]? = some x → ∃ b off, a = some ⟨b, off, none⟩ ∧ b < W.heap.size ∧ ∀ j v, (f x)[j]? = some v → W.cell? ⟨b, off + k * c + j, none⟩ = some v
theorem RecsIn.below {α : Type} {c : Nat} {f : α → List Value} {W W' : World} {a : Option Addr} {L : List α} (h : RecsIn c f W a L) (hb : Below W.heap.size W W') : RecsIn c f W' a L := fun k x hx => by
  obtain ⟨b, off, ha, hlt, hc⟩ := h k x hx
  exact ⟨b, off, ha, Nat.lt_of_lt_of_le hlt hb.size, fun j v hv => (hb.cell (p := ⟨b, off + k * c + j, none⟩) hlt).trans (hc j v hv)⟩
theorem RecsIn.at {α : Type} {c : Nat} {f : α → List Value} {W : World} {a : Option Addr} {L : List α} (h : RecsIn c f W a L) (k : Nat) (hk : k < L.length) :
    ∃ b off, a = some ⟨b, off, none⟩ ∧ b < W.heap.size ∧ ∀ j v, (f L[k])[j]? = some v → W.cell? ⟨b, off + k * c + j, none⟩ = some v := h k _ (List.getElem?_eq_getElem hk)
theorem RecsIn.map {α β : Type} {c : Nat} {f : α → List Value} {g : β → List Value} {W : World} {a : Option Addr} {L : List α} (h : RecsIn c f W a L) (r : α → β) (hr : ∀ x ∈ L, g (r x) = f x) : RecsIn c g W a (L.map r) := fun k y hy => by
  rw [List.getElem?_map, Option.map_eq_some_iff] at hy
  obtain ⟨x, hx, rfl⟩ := hy
  obtain ⟨b, off, ha, hlt, hc⟩ := h k x hx
  exact ⟨b, off, ha, hlt, by rw [hr x (List.mem_of_getElem? hx)]; exact hc⟩

theorem plain_add (b off k : Nat) : (⟨b, off, none⟩ : Addr).add k = ⟨b, off + k, none⟩ := by
  unfold Addr.add
  split
  · simp_all
  · rfl
/-- Each element's cells, and how each field of it reads. -/
theorem open_recs {H : Type} {enc : TypeId × Value → H} {P : Program} {t e : TypeId} {fs : Array Field} (ht : P.underlying t = some (.slice e)) (he : P.underlying e = some (.struct fs)) (hone : oneCellFields P fs = true) (hC : P.cellsOf e = fs.size) (hpos : 0 < fs.size)
    {W : World} {a : Option Addr} {len cap : Nat} {d : DataW H} {ps : List MemPlace}
    (h : DataW.Trod enc P W 0 (fun _ => true) true t (.slice a len cap) d ps) (hlt : ∀ x ∈ ps, x.block < W.heap.size) :
    ∃ L : List (List Value), L.length = len ∧ RecsIn fs.size (fun x => x) W a L ∧
      ∀ x ∈ L, x.length = fs.size ∧ ∀ (j : Nat) (f : Field), fs[j]? = some f → ∃ v y n, x[j]? = some v ∧ DataW.trod enc P W 0 (fun _ => true) true n f.type [v] = some y := by
  obtain ⟨fuel, hf⟩ := h
  rcases open_slice ht hf with ⟨hcs, hx⟩ | ⟨a', len', cap', m, n, D, Pl, hcs, _, hl, hm, hmm, hx, hi⟩
  · simp [Value.cells] at hcs
    obtain ⟨rfl, rfl, rfl⟩ := hcs
    exact ⟨[], rfl, fun k x hx => by simp at hx, fun x hx => by simp at hx⟩
  simp [Value.cells] at hcs
  obtain ⟨rfl, rfl, rfl⟩ := hcs
  simp only [if_true] at hmm
  simp only [Prod.mk.injEq] at hx
  obtain ⟨rfl, rfl⟩ := hx
  have hmem : ∀ i, i < len → ∃ cs', W.cells? 0 (a'.add (i * fs.size)) fs.size = some cs' ∧ DataW.trod enc P W 0 (fun _ => true) true n e cs' = some (D i, Pl i) := fun i h => by
    have := hi i (by omega)
    rwa [hC] at this
  obtain ⟨F, hF⟩ : ∃ F : Nat → List Value, ∀ i, i < len → W.cells? 0 (a'.add (i * fs.size)) fs.size = some (F i) ∧ DataW.trod enc P W 0 (fun _ => true) true n e (F i) = some (D i, Pl i) := by
    refine ⟨fun i => if h : i < len then (hmem i h).choose else [], fun i h => ?_⟩
    simp only [h, dif_pos]
    exact (hmem i h).choose_spec
  refine ⟨(List.range len).map F, by simp, fun k x hx => ?_, fun x hx => ?_⟩
  · have hk : k < len := by
      have := (List.getElem?_eq_some_iff.1 hx).1
      simpa using this
    simp [hk] at hx
    subst hx
    obtain ⟨hc, _⟩ := hF k hk
    obtain ⟨_, hcl, hat⟩ := World.cells?_some hc
    obtain ⟨b, off, spot⟩ := a'
    have hspot : spot = none := by
      obtain ⟨hc0, _⟩ := hF 0 (by omega)
      obtain ⟨_, hcl0, hat0⟩ := World.cells?_some hc0
      have h0 := hat0 0 hpos
      have hv : (F 0)[0]? = some ((F 0)[0]'(by omega)) := List.getElem?_eq_getElem (by omega)
      rw [hv] at h0
      simpa [Addr.add] using World.cell?_spot h0
    subst hspot
    refine ⟨b, off, rfl, hlt (.cell b off) (List.mem_append_left _ (MemPlace.mem_row.2 ⟨0, ?_, by simp⟩)), fun j v hv => ?_⟩
    · rw [hC]
      exact Nat.mul_pos (by omega) hpos
    · have hj : j < fs.size := by
        have := (List.getElem?_eq_some_iff.1 hv).1
        rw [hcl] at this
        exact this
      have h1 := hat j hj
      rw [hv, Go.Deep.add_add, plain_add] at h1
      rw [Nat.add_assoc]
      exact h1
  · rw [List.mem_map] at hx
    obtain ⟨i, hi', rfl⟩ := hx
    have hil : i < len := by simpa using hi'
    obtain ⟨hc, hT⟩ := hF i hil
    obtain ⟨ys, n', _, _, hlen, hyl, hfd⟩ := DataW.trod_struct he hT
    rw [hC] at hlen
    refine ⟨hlen, fun j f hj => ?_⟩
    obtain ⟨ho, hk⟩ := hone_of hone j f hj
    have hjl : j < fs.size := (Array.getElem?_eq_some_iff.1 hj).1
    have h1 := hfd j f hj
    rw [ho, hk, List.drop_eq_getElem_cons (by omega), List.take_succ_cons, List.take_zero] at h1
    have hys : ys[j]? = some (ys[j]'(by omega)) := List.getElem?_eq_getElem (by omega)
    exact ⟨_, _, n', List.getElem?_eq_getElem (by omega), h1.trans hys⟩

/-- By values of one's own. -/
theorem RecsIn.by {α : Type} [Inhabited α] {c : Nat} {f : α → List Value} {W : World} {a : Option Addr} {L : List (List Value)} (h : RecsIn c (fun x => x) W a L) (hf : ∀ x ∈ L, ∃ p, f p = x) : ∃ M : List α, M.length = L.length ∧ RecsIn c f W a M := by
  classical
  refine ⟨L.map fun x => if h : ∃ p, f p = x then h.choose else default, by simp, h.map _ fun x hx => ?_⟩
  simp only [hf x hx, dif_pos]
  exact (hf x hx).choose_spec
theorem list3 {α : Type} {x : List α} (h : x.length = 3) {a b c : α} (h0 : x[0]? = some a) (h1 : x[1]? = some b) (h2 : x[2]? = some c) : x = [a, b, c] := by
  match x, h with
  | [p, q, r], _ => simp at h0 h1 h2; rw [h0, h1, h2]
theorem list2 {α : Type} {x : List α} (h : x.length = 2) {a b : α} (h0 : x[0]? = some a) (h1 : x[1]? = some b) : x = [a, b] := by
  match x, h with
  | [p, q], _ => simp at h0 h1; rw [h0, h1]

end Go.Proofs.YtmfejpbijllojaaGreat
