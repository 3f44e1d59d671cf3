/- A slice of small numbers (uint8) among a law's arguments, opened as a list. Whatever program. -/
import Derived.Test.YtmonfkiakjaimaaLists
import Derived.OpenShut
namespace Go.Proofs.Ytmonfkiakjaimaa
open Go.ChangeShapes Go.WideShapes Go.ChangeAt Go.RowKit

theorem open_u8s {H : Type} {enc : TypeId × Value → H} {P : Program} {t e : TypeId} (ht : P.underlying t = some (.slice e)) (he : P.underlying e = some (.int .u8)) (hc : P.cellsOf e = 1) {W : World} {a : Option Addr} {len cap : Nat} {d : DataW H} {ps : List MemPlace}
    (h : DataW.Trod enc P W 0 (fun _ => true) true t (.slice a len cap) d ps) (hlt : ∀ x ∈ ps, x.block < W.heap.size) : ∃ L : List Int, L.length = len ∧ (ListIn (Value.int .u8) W a L ∧ ∀ x ∈ L, 0 ≤ x ∧ x < 256) := by
  obtain ⟨fuel, hf⟩ := h
  rcases open_ints ht he hc hf with ⟨hcs, hx⟩ | ⟨a', len', cap', zs, hcs, _, hl, hm, hz, hx, hcell, hwf⟩
  · simp [Value.cells] at hcs
    obtain ⟨rfl, rfl, rfl⟩ := hcs
    exact ⟨[], rfl, fun i x hx => by simp at hx, fun x hx => by simp at hx⟩
  · simp [Value.cells] at hcs
    obtain ⟨rfl, rfl, rfl⟩ := hcs
    simp only [Prod.mk.injEq] at hx
    obtain ⟨rfl, rfl⟩ := hx
    simp only [if_true] at hz
    rw [hz] at hlt
    refine ⟨zs.take len, by simp; omega, listIn_row (by simp; omega) hlt fun k x hx => ?_, fun x hx => ?_⟩
    · have hk : k < len := by
        have := (List.getElem?_eq_some_iff.1 hx).1; simp at this; omega
      rw [List.getElem?_take_of_lt hk] at hx
      have := hcell k (by omega)
      rw [List.getD, hx] at this
      exact this
    · have := bounds_u8 (hwf x (List.mem_of_mem_take hx))
      omega

end Go.Proofs.Ytmonfkiakjaimaa
