/- bellmanref01.Ints: whether two slices hold the same numbers. -/
import Derived.Test.YtmfejpbijllojaaGreatNums
import Derived.Test.YtmfejpbijllojaaGreatBase
import Derived.IntWalk
import Derived.Deep.Draws
import Derived.BigQuiet
namespace Go.Proofs.YtmfejpbijllojaaGreat
open Go.RowKit

/-- bellmanref01.Ints: the same numbers? -/
theorem ref_Ints_d (u v : Value) (A B : List Int) (w : World) (hu : NumsIn w u A) (hv : NumsIn w v B) (hA : A.length ≤ 1000000) (hB : B.length ≤ 1000000) :
    Calls Tryz.prog 16 #[u, v] w fun e w' => e = .returned (.bool (decide (A = B))) ∧ ∃ m, w' = w.drewN m := by
  obtain ⟨a, c, rfl, h1⟩ := hu.form
  obtain ⟨a', c', rfl, h2⟩ := hv.form
  have HC := Lib.hid h1
  have HC' := Lib.hid h2
  clear h1 h2 hu hv
  by_cases hlm : A.length = B.length
  · have HLM := Lib.hid hlm
    rw [hlm]
    clear hlm
    go_enter Tryz.func16, Tryz.ntmps16
    go_wp2
    go_loopw [5] (fun i wr => ∃ (k n : Nat), k ≤ B.length ∧ i = .int .i64 k ∧ wr = w.drewN n ∧ Hid (A.take k = B.take k)) (fun i _ => B.length - (intOf i).toNat)
    case atStart => exact ⟨0, 0, Nat.zero_le _, rfl, rfl, rfl⟩
    case round =>
      obtain ⟨k, n, hk, rfl, rfl, H⟩ := hrel
      by_cases hlt : k < B.length
      · have hlt' : k < A.length := by rw [HLM.out]; exact hlt
        obtain ⟨b, off, rfl, _, hx⟩ := HC.out k hlt'
        obtain ⟨b', off', rfl, _, hy⟩ := HC'.out k hlt
        have hx' := getD_at hlt'
        have hy' := getD_at hlt
        generalize A.getD k 0 = x at hx hx'
        generalize B.getD k 0 = y at hy hy'
        have X := Lib.hid hx'
        have Y := Lib.hid hy'
        clear hx' hy'
        go_wp2
        go_region
        go_wp2
        · go_ret
          rename_i hne
          refine ⟨?_, n + 1, rfl⟩
          have : decide (A = B) = false := by
            rw [decide_eq_false_iff_not]; rintro rfl
            have : x = y := X.out.trans Y.out.symm
            simp [this] at hne
          rw [this]; rfl
        · rename_i heq
          go_roundw
          case rel =>
            refine ⟨k + 1, n + 1, by omega, by go_num, rfl, ?_⟩
            have e : A[k] = B[k] := by rw [← X.out, ← Y.out]; simpa using heq
            show A.take (k + 1) = B.take (k + 1)
            rw [List.take_succ_eq_append_getElem hlt', List.take_succ_eq_append_getElem hlt, H.out, e]
          case measure => simp [intOf]; omega
      · go_wp2
        go_ret
        refine ⟨?_, n, rfl⟩
        have : A = B := by
          have := H.out
          rwa [List.take_of_length_le (by rw [HLM.out]; omega), List.take_of_length_le (by omega)] at this
        rw [this]; simp
  · have H := Lib.hid (show decide (A = B) = false by rw [decide_eq_false_iff_not]; rintro rfl; exact hlm rfl)
    have h1 : ((A.length : Int) != (B.length : Int)) = true := by simp; omega
    clear hlm
    go_enter Tryz.func16, Tryz.ntmps16
    go_wp2
    go_ret
    exact ⟨by rw [H.out]; rfl, 0, rfl⟩
theorem ref_Ints (u v : Value) (A B : List Int) (w : World) (hu : NumsIn w u A) (hv : NumsIn w v B) (hA : A.length ≤ 1000000) (hB : B.length ≤ 1000000) :
    Calls Tryz.prog 16 #[u, v] w fun e w' => e = .returned (.bool (decide (A = B))) ∧ Below w.heap.size w w' :=
  (ref_Ints_d u v A B w hu hv hA hB).mono fun _ _ ⟨h1, m, h2⟩ => ⟨h1, by subst h2; exact below_draws (Below.refl _ w) m⟩

end Go.Proofs.YtmfejpbijllojaaGreat
