/- A list of deeds among a law's arguments (layer 13). -/
import Derived.Test.YtmfejpbijllojaaProg
import Derived.Test.YtmfejpbijllojaaRecs
namespace Go.Proofs.Ytmfejpbijllojaa
open Go.ChangeShapes Go.WideShapes Go.ChangeAt Go.RowKit Go.Deep

/-- A deed: is it a drop, the filter, the subscriber. -/
structure Td where
  dr : Bool
  f : ByteArray
  s : Int
deriving Inhabited
abbrev tdC (d : Td) : List Value := [.bool d.dr, .string d.f, .int .i64 d.s]
/-- A slice of deeds, no longer than any. -/
def DIn (W : World) (a : Option Addr) (L : List Td) : Prop := L.length ≤ maxLen ∧ RecsIn 3 tdC W a L
theorem DIn.below {W W' : World} {a : Option Addr} {L : List Td} (h : DIn W a L) (hb : Below W.heap.size W W') : DIn W' a L := ⟨h.1, h.2.below hb⟩
theorem len_max {H : Type} {enc : TypeId × Value → H} {W : World} {t e : TypeId} {a : Option Addr} {len cap : Nat} {d : DataW H} {ps : List MemPlace} (ht : Try.prog.underlying t = some (.slice e))
    (h : DataW.Trod enc Try.prog W 0 (fun _ => true) true t (.slice a len cap) d ps) : len ≤ maxLen := by
  obtain ⟨fuel, hf⟩ := h
  rcases open_slice ht hf with ⟨hcs, hx⟩ | ⟨a', len', cap', m, n, D, Pl, hcs, _, hl, hm, _⟩
  · simp [Value.cells] at hcs
    obtain ⟨_, rfl, _⟩ := hcs
    exact Nat.zero_le _
  · simp [Value.cells] at hcs
    obtain ⟨rfl, rfl, rfl⟩ := hcs
    omega
theorem open_deeds13 {H : Type} {enc : TypeId × Value → H} {W : World} {a : Option Addr} {len cap : Nat} {d : DataW H} {ps : List MemPlace}
    (h : DataW.Trod enc Try.prog W 0 (fun _ => true) true 22 (.slice a len cap) d ps) (hlt : ∀ x ∈ ps, x.block < W.heap.size) : ∃ L : List Td, L.length = len ∧ DIn W a L := by
  have hmx := len_max Try.underlying22 h
  obtain ⟨L, hl, hr, hx⟩ := open_recs Try.underlying22 Try.underlying29 (by kernel_rfl) (by kernel_rfl) (by decide) h hlt
  obtain ⟨M, hM, hR⟩ := RecsIn.by (f := tdC) hr fun x hm => by
    obtain ⟨hlen, hf⟩ := hx x hm
    obtain ⟨v0, y0, n0, e0, t0⟩ := hf 0 _ rfl
    obtain ⟨v1, y1, n1, e1, t1⟩ := hf 1 _ rfl
    obtain ⟨v2, y2, n2, e2, t2⟩ := hf 2 _ rfl
    obtain ⟨z0, c0, _⟩ := DataW.trod_bool Try.underlying4 t0
    obtain ⟨s1, c1, _⟩ := DataW.trod_string Try.underlying9 t1
    obtain ⟨z2, c2, _⟩ := DataW.trod_int Try.underlying3 t2
    simp only [List.cons.injEq, and_true] at c0 c1 c2
    subst c0 c1 c2
    exact ⟨⟨z0, s1, z2⟩, (list3 hlen e0 e1 e2).symm⟩
  exact ⟨M, hM.trans hl, by rw [hM.trans hl]; exact hmx, hR⟩
end Go.Proofs.Ytmfejpbijllojaa
