/- Layer 8: the statements' small machine: bellmanref08.text, Key, Do; the functions that are handed in. -/
import Derived.Test.YthngehpmoiojfaaSmall8
import Derived.Test.YthngehpmoiojfaaBase
import Derived.Test.YthngehpmoiojfaaRows7
import Derived.BigCall
import Derived.BigGuard
import Derived.BigQuiet
namespace Go.Proofs.Ythngehpmoiojfaa
open Go.RowKit

theorem text_low (n : Nat) (h : n < 10) (w : World) : Calls Try.prog 35 #[numV n] w fun e w' => e = .returned (.string (textB (digN n))) ∧ w' = w := by
  have hc : n = 0 ∨ n = 1 ∨ n = 2 ∨ n = 3 ∨ n = 4 ∨ n = 5 ∨ n = 6 ∨ n = 7 ∨ n = 8 ∨ n = 9 := by omega
  rw [digN_low h]
  rcases hc with rfl | rfl | rfl | rfl | rfl | rfl | rfl | rfl | rfl | rfl <;>
  · go_enter Try.func35, Try.ntmps35
    go_wp2
    go_ret
    exact ⟨rfl, rfl⟩

theorem textB_cat (a b : List UInt8) : textB a ++ textB b = textB (a ++ b) := by
  apply ByteArray.ext
  simp [textB]
set_option maxHeartbeats 1000000 in
theorem text_nat : ∀ (k n : Nat), n < k → n < 1000000000 → ∀ w : World, Calls Try.prog 35 #[numV n] w fun e w' => e = .returned (.string (textB (digN n))) ∧ w' = w
  | 0, n, h, _, w => by omega
  | k + 1, n, h, hn, w => by
    by_cases hl : n < 10
    · exact text_low n hl w
    · have hd : ((n : Int)).tdiv 10 = ((n / 10 : Nat) : Int) := by rw [Int.tdiv_eq_ediv_of_nonneg (by omega)]; omega
      have hm : ((n : Int)).tmod 10 = ((n % 10 : Nat) : Int) := by rw [Int.tmod_eq_emod_of_nonneg (by omega)]; omega
      have e := textB_cat (digN (n / 10)) (digN (n % 10))
      rw [← digN_high hl] at e
      have h1 := text_nat k (n / 10) (by omega) (by omega)
      have hs1 : (textB (digN (n / 10))).size ≤ 9 := dig_len (n / 10) 8 (by omega)
      have hs2 : (textB (digN (n % 10))).size ≤ 9 := dig_len (n % 10) 8 (by omega)
      have h2 := text_low (n % 10) (by omega)
      go_enter Try.func35, Try.ntmps35
      go_wp2_with fail
      refine (h1 _).mono ?_
      rintro e1 w1 ⟨rfl, rfl⟩
      go_wp2_with fail
      refine (h2 _).mono ?_
      rintro e1 w1 ⟨rfl, rfl⟩
      go_wp2
      go_ret
      exact ⟨by rw [← e]; rfl, rfl⟩

theorem text_int (n : Int) (h1 : -100000000 ≤ n) (h2 : n ≤ 100000000) (w : World) : Calls Try.prog 35 #[numV n] w fun e w' => e = .returned (.string (textB (textZ n))) ∧ w' = w := by
  by_cases h : n < 0
  · obtain ⟨k, rfl⟩ : ∃ k : Nat, n = -(k : Int) := ⟨(-n).toNat, by omega⟩
    have e : textB [45] ++ textB (digN k) = textB (textZ (-(k : Int))) := by
      rw [textB_cat]
      unfold textZ
      rw [if_pos h, Int.neg_neg, Int.toNat_natCast]
      rfl
    have hs : (textB (digN k)).size ≤ 9 := dig_len k 8 (by omega)
    have hk := text_nat (k + 1) k (by omega) (by omega)
    go_enter Try.func35, Try.ntmps35
    go_wp2_with fail
    refine (hk _).mono ?_
    rintro e1 w1 ⟨rfl, rfl⟩
    go_wp2
    go_ret
    exact ⟨by rw [← e]; rfl, rfl⟩
  · obtain ⟨k, rfl⟩ : ∃ k : Nat, n = (k : Int) := ⟨n.toNat, by omega⟩
    unfold textZ
    rw [if_neg h, Int.toNat_natCast]
    exact text_nat (k + 1) k (by omega) (by omega) w

theorem ref_Key {s : StZ} (h1 : -100000000 ≤ s.n) (h2 : s.n ≤ 100000000) (h3 : s.slot.size ≤ 1000000) (w : World) : Calls Try.prog 23 #[stA s] w fun e w' => e = .returned (.string (keyZ s)) ∧ Below w.heap.size w w' := by
  have e : textB (textZ s.n) ++ textB [44] ++ s.slot = keyZ s := by
    apply ByteArray.ext
    simp [textB, keyZ]
  have ht := text_int s.n h1 h2
  have hs : (textB (textZ s.n)).size ≤ 20 := by
    show (textZ s.n).length ≤ 20
    unfold textZ
    split
    · have := dig_len (-s.n).toNat 9 (by omega)
      simp
      omega
    · have := dig_len s.n.toNat 9 (by omega)
      omega
  have c0 : (w.alloc (.cells (stV s).toArray 40)).cell? ⟨w.heap.size, 0, none⟩ = some (numV s.n) := (Blk.new (l := stV s)).at (o := 0) rfl
  have c1 : (w.alloc (.cells (stV s).toArray 40)).cell? ⟨w.heap.size, 1, none⟩ = some (.string s.slot) := (Blk.new (l := stV s)).at (o := 1) rfl
  go_enter Try.func23, Try.ntmps23
  go_wp2_with fail
  go_quiet (first | (go_at_call 35; exact Calls.quiet_of_same (ht _)))
  go_wp2
  go_ret
  exact ⟨by rw [← e]; rfl, (below_draws ((Below.refl _ _).alloc (Nat.le_refl _) _) _)⟩

theorem below4 (w : World) (a b c d : Obj) : Below w.heap.size w ((((w.alloc a).alloc b).alloc c).alloc d) :=
  ((((Below.refl _ _).alloc (Nat.le_refl _) _).alloc (by simp) _).alloc (by simp; omega) _).alloc (by simp; omega) _
theorem ref_Do (s : StZ) (x : OpZ) (h1 : -100000000 ≤ s.n) (h2 : s.n ≤ 100000000) (w : World) : Calls Try.prog 15 #[stA s, opA x] w fun e w' => e = .returned (.tuple #[stA (doZ s x).1, anA (doZ s x).2]) ∧ Below w.heap.size w w' := by
  obtain ⟨n, sl⟩ := s
  obtain ⟨k, sb, t, p, kp⟩ := x
  simp only [stA, opA, stV, opV, doZ] at h1 h2 ⊢
  have ht := tmod_le sb
  obtain ⟨ht1, ht2⟩ := ht
  by_cases hk1 : k = 1
  · subst hk1
    rw [if_pos rfl]
    go_enter Try.func15, Try.ntmps15
    go_wp2
    go_region
    all_goals go_wp2
    all_goals refine bodyPost_ret (v := .tuple #[.agg #[numV (n + sb.tmod 100), .string sl], .agg #[numV 0, numV (n + sb.tmod 100), numV 0, .string ByteArray.empty, .string ByteArray.empty, .bool false]]) ?_ rfl ⟨rfl, (below_draws (below4 _ _ _ _ _) 1)⟩
    all_goals (simp [results, Try.f15, go_sem]; try rfl)
  have hq1 : (k == 1) = false := by simpa using hk1
  rw [if_neg hk1]
  by_cases hk2 : k = 2
  · subst hk2
    rw [if_pos rfl]
    go_enter Try.func15, Try.ntmps15
    go_wp2
    all_goals refine bodyPost_ret (v := .tuple #[.agg #[numV n, .string p], .agg #[numV 0, numV 0, numV 0, .string ByteArray.empty, .string sl, .bool false]]) ?_ rfl ⟨rfl, (below4 _ _ _ _ _)⟩
    all_goals (simp [results, Try.f15, go_sem]; try rfl)
  have hq2 : (k == 2) = false := by simpa using hk2
  rw [if_neg hk2]
  by_cases hk3 : k = 3
  · subst hk3
    rw [if_pos rfl]
    by_cases hs : sl = ByteArray.empty
    · rw [if_pos hs]
      subst hs
      go_enter Try.func15, Try.ntmps15
      go_wp2
      all_goals refine bodyPost_ret (v := .tuple #[.agg #[numV n, .string ByteArray.empty], .agg #[numV 7, numV 0, numV 0, .string ByteArray.empty, .string ByteArray.empty, .bool false]]) ?_ rfl ⟨rfl, (below4 _ _ _ _ _)⟩
      all_goals (simp [results, Try.f15, go_sem]; try rfl)
    · rw [if_neg hs]
      have hq : sl.toList.isEmpty = false := by
        rw [Bool.eq_false_iff]
        intro h
        rw [List.isEmpty_iff, ByteArray.toList_eq] at h
        exact hs (ByteArray.ext (by simpa using h))
      go_enter Try.func15, Try.ntmps15
      go_wp2
      all_goals refine bodyPost_ret (v := .tuple #[.agg #[numV n, .string ByteArray.empty], .agg #[numV 0, numV 0, numV 0, .string ByteArray.empty, .string sl, .bool false]]) ?_ rfl ⟨rfl, (below4 _ _ _ _ _)⟩
      all_goals (simp [results, Try.f15, go_sem]; try rfl)
  have hq3 : (k == 3) = false := by simpa using hk3
  rw [if_neg hk3]
  go_enter Try.func15, Try.ntmps15
  go_wp2
  go_region
  all_goals go_wp2
  all_goals refine bodyPost_ret (v := .tuple #[.agg #[numV n, .string sl], .agg #[numV 0, numV 0, numV n, .string ByteArray.empty, .string ByteArray.empty, .bool false]]) ?_ rfl ⟨rfl, (below_draws (below4 _ _ _ _ _) 1)⟩
  all_goals (simp [results, Try.f15, go_sem]; try rfl)

end Go.Proofs.Ythngehpmoiojfaa
