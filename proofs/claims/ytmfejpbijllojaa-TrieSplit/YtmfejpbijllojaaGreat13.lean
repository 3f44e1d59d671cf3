/- Layer 13's laws: is there more than is looked at? -/
import Derived.Test.YtmfejpbijllojaaArgs13
import Derived.Test.YtmfejpbijllojaaBase
import Derived.Lib.Hide
import Derived.WalkKit
import Derived.LoopN
namespace Go.Proofs.Ytmfejpbijllojaa
open Go.RowKit

def greatZ (L : List Td) : Bool := L.any (fun d => decide (100 < d.f.size)) || decide (100 < L.length)
theorem great_at {L : List Td} {k : Nat} (hk : k < L.length) (h : 100 < L[k].f.size) : greatZ L = true := by
  rw [greatZ, Bool.or_eq_true]
  exact .inl (List.any_eq_true.2 ⟨L[k], List.getElem_mem hk, by simpa using h⟩)
theorem great_none {L : List Td} (h : ∀ k (hk : k < L.length), ¬ 100 < L[k].f.size) : greatZ L = decide (100 < L.length) := by
  have : L.any (fun d => decide (100 < d.f.size)) = false := by
    rw [List.any_eq_false]
    intro x hx
    obtain ⟨k, hk, rfl⟩ := List.mem_iff_getElem.1 hx
    simpa using h k hk
  rw [greatZ, this, Bool.false_or]
theorem small_of {L : List Td} (h : greatZ L = false) : L.length ≤ 100 ∧ ∀ d ∈ L, d.f.size ≤ 100 := by
  rw [greatZ, Bool.or_eq_false_iff, List.any_eq_false] at h
  exact ⟨by simpa using h.2, fun d hd => by simpa using h.1 d hd⟩
set_option maxRecDepth 100000 in
set_option maxHeartbeats 2000000 in
theorem great13 (a : Option Addr) (cap : Nat) (D : List Td) (w : World) (ht : DIn w a D) :
    Calls Try.prog 7 #[.slice a D.length cap] w fun e w' => e = .returned (.bool (greatZ D)) ∧ w = w' := by
  have hmx : D.length ≤ 9223372036854775807 := ht.1
  have T := Lib.hid ht.2
  clear ht
  go_enter Try.func7, Try.ntmps7
  go_wp2_with fail
  go_loopw [3] (fun i wr => ∃ k : Nat, k ≤ D.length ∧ i = .int .i64 k ∧ Hid (∀ j (hj : j < D.length), j < k → ¬ 100 < D[j].f.size) ∧ wr = w) (fun i _ => D.length - (intOf i).toNat)
  case atStart => exact ⟨0, Nat.zero_le _, rfl, Lib.hid (fun j _ h => by omega), rfl⟩
  case round =>
    obtain ⟨k, hk, rfl, HN, rfl⟩ := hrel
    by_cases hlt : k < D.length
    · obtain ⟨b, off, rfl, hb, hx⟩ := T.out.at k hlt
      have x1 : wr.cell? ⟨b, off + k * 3 + 1, none⟩ = some (.string D[k].f) := hx 1 _ rfl
      have hlt2 : (k : Int) < (D.length : Int) := by omega
      by_cases hs : 100 < D[k].f.size
      · have HG := Lib.hid (great_at hlt hs)
        generalize D[k].f = f at *
        clear hx
        go_wp2
        go_ret
        exact ⟨by rw [HG.out]; rfl, rfl⟩
      · have HS := Lib.hid hs
        generalize hf : D[k].f = f at *
        clear hx
        go_wp2
        go_roundw
        case rel =>
          refine ⟨k + 1, by omega, by go_num, Lib.hid (fun j hj hjk => ?_), trivial⟩
          by_cases e : j = k
          · subst e; rw [hf]; exact HS.out
          · exact HN.out j hj (by omega)
        case measure => simp [intOf]; omega
    · have HG := Lib.hid (great_none fun j hj => HN.out j hj (by omega))
      have hge : decide ((D.length : Int) ≤ (k : Int)) = true := by simp; omega
      have hnl : ¬ (k : Int) < (D.length : Int) := by omega
      go_wp2
      go_ret
      exact ⟨by rw [HG.out]; first | rfl | (simp; done) | (simp; omega), rfl⟩
end Go.Proofs.Ytmfejpbijllojaa
