/- Layer 7: HistRight's arguments. -/
import Derived.Test.YtjkabbabhfipbaaArgs7
import Derived.Test.YtjkabbabhfipbaaLawRight7
import Derived.Test.YtjkabbabhfipbaaLists
namespace Go.Proofs.Ytjkabbabhfipbaa
open Go.ChangeShapes Go.WideShapes Go.ChangeAt Go.RowKit Go.Deep

theorem slice_none {H : Type} {enc : TypeId × Value → H} {P : Program} {t e : TypeId} (ht : P.underlying t = some (.slice e)) {W : World} {a : Option Addr} {len cap : Nat} {d : DataW H} {ps : List MemPlace}
    (h : DataW.Trod enc P W 0 (fun _ => true) true t (.slice a len cap) d ps) (ha : a = none) : cap = 0 := by
  obtain ⟨fuel, hf⟩ := h
  rcases open_slice ht hf with ⟨hcs, _⟩ | ⟨a', len', cap', m, n, D, Pl, hcs, _⟩
  · simp [Value.cells] at hcs
    exact hcs.2.2
  · simp [Value.cells, ha] at hcs
theorem u8_in {a : Int} (h : (Lit.int .u8 a).wf = true) : 0 ≤ a ∧ a < 256 := by
  have := bounds_u8 h
  omega
theorem law_right {w : World} {a ad : Option Addr} {cap capd : Nat} {L : List CallZ} {D : List Bool} (hL : RecsIn 15 callV w a L ∧ WfCalls L) (hD : ListIn Value.bool w ad D) (hcd : ad = none → capd = 0) (i k : Int) (hi : 0 ≤ i ∧ i < 256) (hk : 0 ≤ k ∧ k < 256) :
    Calls Try.prog 4 #[.slice a L.length cap, .slice ad D.length capd, .int .u8 i, .int .u8 k] w fun e w' => e = .returned (.bool true) ∧ Below w.heap.size w w' := by
  cases ad with
  | none =>
    obtain rfl := hcd rfl
    cases D with
    | nil => exact law_right_none hL.1 hL.2 i k hi hk
    | cons d r =>
      obtain ⟨b, off, e, _⟩ := hD 0 d rfl
      cases e
  | some a0 => exact law_right_some hL.1 hL.2 hD i k hi hk

end Go.Proofs.Ytjkabbabhfipbaa
