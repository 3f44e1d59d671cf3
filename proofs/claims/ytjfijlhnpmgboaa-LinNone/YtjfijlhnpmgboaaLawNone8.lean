/- LinNone's walk. -/
import Derived.Test.YtjfijlhnpmgboaaAwake8
import Derived.Test.YtjfijlhnpmgboaaRefCheck8
import Derived.Test.YtjfijlhnpmgboaaChainPlain8
namespace Go.Proofs.Ytjfijlhnpmgboaa
open Go.RowKit

theorem eql_doi (w : World) : (binOp .eql 54 .nilFunc .nilFunc).run Try.prog w = .ok (.bool true) w := by kernel_rfl
theorem neq_doi (w : World) : (binOp .neq 54 .nilFunc .nilFunc).run Try.prog w = .ok (.bool false) w := by kernel_rfl
theorem order_int (a : Option Addr) (n c : Nat) (w : World) : Calls Try.prog 16 #[.agg #[.int .i64 0, .nilFunc, .nilFunc], .slice a n c] w fun e w' => e = .returned (.tuple #[.slice none 0 0, .bool false]) ∧ Below w.heap.size w w' := by
  have q := eql_doi
  go_enter Try.func16, Try.ntmps16
  go_wp2
  go_ret2
  exact ⟨rfl, (Below.refl _ _).alloc (Nat.le_refl _) _⟩
theorem check_int (a : Option Addr) (n c : Nat) (w : World) : Calls Try.prog 17 #[.agg #[.int .i64 0, .nilFunc, .nilFunc], .slice a n c, .slice none 0 0] w fun e w' => e = .returned (.bool false) ∧ Below w.heap.size w w' := by
  have q := neq_doi
  go_enter Try.func17, Try.ntmps17
  go_wp2
  go_ret
  exact ⟨rfl, (Below.refl _ _).alloc (Nat.le_refl _) _⟩
theorem count_int (a : Option Addr) (n c : Nat) (w : World) : Calls Try.prog 18 #[.agg #[.int .i64 0, .nilFunc, .nilFunc], .slice a n c] w fun e w' => e = .returned (.int .i64 0) ∧ Below w.heap.size w w' := by
  have q := eql_doi
  go_enter Try.func18, Try.ntmps18
  go_wp2
  go_ret
  exact ⟨rfl, (Below.refl _ _).alloc (Nat.le_refl _) _⟩
theorem chV_snoc (n : Nat) : callsV (chL (n + 1)) = callsV (chL n) ++ callV (chC n) := by rw [chL_succ]; unfold callsV; rw [List.flatMap_append]; simp
set_option maxHeartbeats 8000000 in
theorem none8 (x : Int) (hx0 : 0 ≤ x) (hx1 : x ≤ 255) (w : World) : Calls Try.prog 5 #[.int .u8 x] w fun e w' => e = .returned (.bool true) ∧ Below w.heap.size w w' := by
  obtain ⟨i0, hi, hz0, hz1, hz2⟩ := info_at infoCall
  obtain ⟨N, hN⟩ : ∃ N : Nat, x % 40 = (N : Int) := ⟨(x % 40).toNat, by omega⟩
  have hN40 : N < 40 := by omega
  have hm0 : 0 ≤ x % 40 := by omega
  have hm1 : x % 40 < 40 := by omega
  have HN := Lib.hid hN
  clear hN
  go_enter Try.func5, Try.ntmps5
  go_wp2_with fail
  refine (awake8 w).mono ?_
  rintro e w1 ⟨rfl, hb⟩
  have B1 := Lib.hid hb
  clear hb
  go_wp2_with fail
  go_loopw [3, 4] (fun lv iv wr => ∃ i : Nat, i ≤ N ∧ iv = .int .i64 i ∧ wr.ownsRow w1.heap.size 34 15 lv i (callsV (chL i)) ∧ Hid (Below w1.heap.size w1 wr)) (fun _ iv _ => N - (intOf iv).toNat)
  case atStart => exact ⟨0, Nat.zero_le _, rfl, World.ownsRow_nil _ _ _ _, Lib.hid (Below.refl _ _)⟩
  case round =>
    obtain ⟨i, hiN, rfl, hrow, HB⟩ := hrel
    have hbs := HB.out.size
    by_cases hlt : i < N
    · have hd : decide ((i : Int) < x % 40) = true := by rw [HN.out]; simpa using hlt
      go_wp2_with (at_builtin; (refine wpList_append_lies _ rfl _ _ 22 rfl w1.heap.size 34 i0 (callA default) 15 152 Try.underlying22 hi hz0 hz1 hz2 rfl (by decide) _ _ _ rfl (hrow.alloc _) ⟨wr.heap.size, 0, none⟩ 1 1 (callV (chC i)) rfl rfl (World.news_of_block (Blk.new (l := callV (chC i)))) (by simp [callV, Value.oneCell']) (by decide) (by simp only [maxLen]; omega) (by omega) (by simp; omega) (wr.heap.size + 1) (by simp) ?_); intro g5 cap5 w5 hown hgrow hlie hlt5)
      go_roundw
      case rel =>
        refine ⟨i + 1, by omega, by go_num, ?_, Lib.hid ((HB.out.alloc hbs _).grown hgrow (by simp; omega) (fun j e => own_base3 hrow j e))⟩
        rw [chV_snoc]
        exact hown
      case measure => simp [intOf]; omega
    · obtain rfl : i = N := by omega
      have hd : decide ((i : Int) < x % 40) = false := by rw [HN.out]; simp
      have hcl := CallsIn.own hrow (chL_len i).symm
      have CL3 := Lib.hid hcl
      obtain ⟨la, lc, le, _⟩ := hcl
      subst le
      rw [chL_len] at *
      have B2 := Lib.hid (B1.out.trans (HB.out.mono B1.out.size))
      clear hrow HB
      obtain ⟨N, rfl⟩ : ∃ N, N = i := ⟨_, rfl⟩
      go_wp2_with fail
      refine (law_machine _).mono ?_
      rintro e w3 ⟨rfl, hb3⟩
      have CL := Lib.hid (CL3.out.below hb3)
      have B3 := Lib.hid (B2.out.trans (hb3.mono B2.out.size))
      clear hb3
      go_wp2_with fail
      by_cases h24 : N ≤ 24
      · by_cases h7 : N ≤ 7
        · skip
          refine (lin_Order (c := 0) CL.out (by rw [chL_len]; exact h24) (by decide) chL_small (by rw [chL_len]; have := (ch_all h24).2; show costZ (chL N) N (List.replicate 24 false) < maxLen; rw [this]; simp only [maxLen]; omega)).mono ?_
          rintro e w4 ⟨r, rfl, hn, hb4⟩
          rw [show resF (chL N) D24 st0 = some (upFrom 0 N) from ch_res h24] at hn ⊢
          rw [show (some (upFrom 0 N)).isSome = true from rfl]
          replace hn : NumsIn w4 r (upFrom 0 N) := hn
          obtain ⟨ra, rc, er, _⟩ := hn.form
          subst er
          have N4 := Lib.hid hn
          have CL4 := Lib.hid (CL.out.below hb4)
          have B4 := Lib.hid (B3.out.trans (hb4.mono B3.out.size))
          clear hb4 hn
          go_wp2_with fail
          refine (ref_Check8 CL4.out (by rw [chL_len]; omega) N4.out).mono ?_
          rintro e w5 ⟨rfl, hb5⟩
          rw [ch_check h24]
          have CL5 := Lib.hid (CL4.out.below hb5)
          have B5 := Lib.hid (B4.out.trans (hb5.mono B4.out.size))
          clear hb5
          go_wp2_with fail
          have MB := Lib.hid (Blk.new (W := w5) (t := 57) (l := [.int .i64 0, .nilFunc, .nilFunc]))
          refine (order_int _ _ _ _).mono ?_
          rintro e w6 ⟨rfl, hb6⟩
          replace MB := Lib.hid (MB.out.below hb6 MB.out.lt)
          have CL6 := Lib.hid (CL5.out.below ((Below.refl _ _).alloc (Nat.le_refl _) (.cells #[.int .i64 0, .nilFunc, .nilFunc] 57) |>.trans (hb6.mono (by simp))))
          have B6 := Lib.hid ((B5.out.alloc B5.out.size (.cells #[.int .i64 0, .nilFunc, .nilFunc] 57)).trans (hb6.mono (by have := B5.out.size; simp; omega)))
          clear hb6
          go_wp2_with fail
          refine (law_machine _).mono ?_
          rintro e w7 ⟨rfl, hb7⟩
          replace MB := Lib.hid (MB.out.below hb7 MB.out.lt)
          have CL7 := Lib.hid (CL6.out.below hb7)
          have B7 := Lib.hid (B6.out.trans (hb7.mono B6.out.size))
          clear hb7
          go_wp2_with fail
          refine (lin_Count (c := 0) CL7.out (by rw [chL_len]; exact h7) chL_small (by show cntF (chL N) (List.replicate 24 false) st0 ≤ 1000000; rw [ch_cnt h24]; decide) (by rw [chL_len]; have := (ch_all h24).2; show costZ (chL N) N (List.replicate 24 false) < maxLen; rw [this]; simp only [maxLen]; omega)).mono ?_
          rintro e w8 ⟨rfl, hb8⟩
          rw [show cntF (chL N) D24 st0 = 1 from ch_cnt h24]
          have B8 := Lib.hid (B7.out.trans (hb8.mono B7.out.size))
          replace MB := Lib.hid (MB.out.below hb8 MB.out.lt)
          have m0 := MB.out.at (o := 0) rfl
          have m1 := MB.out.at (o := 1) rfl
          have m2 := MB.out.at (o := 2) rfl
          clear hb8
          go_wp2_with fail
          refine (check_int _ _ _ _).mono ?_
          rintro e w9 ⟨rfl, hb9⟩
          have B9 := Lib.hid (B8.out.trans (hb9.mono B8.out.size))
          replace MB := Lib.hid (MB.out.below hb9 MB.out.lt)
          have n0 := MB.out.at (o := 0) rfl
          have n1 := MB.out.at (o := 1) rfl
          have n2 := MB.out.at (o := 2) rfl
          clear hb9 m0 m1 m2
          go_wp2_with fail
          refine (count_int _ _ _ _).mono ?_
          rintro e w10 ⟨rfl, hb10⟩
          have B10 := Lib.hid (B9.out.trans (hb10.mono B9.out.size))
          clear hb10 n0 n1 n2
          go_wp2
          go_ret
          exact ⟨rfl, B10.out⟩
        · replace h7 : 7 < N := by omega
          refine (lin_Order (c := 0) CL.out (by rw [chL_len]; exact h24) (by decide) chL_small (by rw [chL_len]; have := (ch_all h24).2; show costZ (chL N) N (List.replicate 24 false) < maxLen; rw [this]; simp only [maxLen]; omega)).mono ?_
          rintro e w4 ⟨r, rfl, hn, hb4⟩
          rw [show resF (chL N) D24 st0 = some (upFrom 0 N) from ch_res h24] at hn ⊢
          rw [show (some (upFrom 0 N)).isSome = true from rfl]
          replace hn : NumsIn w4 r (upFrom 0 N) := hn
          obtain ⟨ra, rc, er, _⟩ := hn.form
          subst er
          have N4 := Lib.hid hn
          have CL4 := Lib.hid (CL.out.below hb4)
          have B4 := Lib.hid (B3.out.trans (hb4.mono B3.out.size))
          clear hb4 hn
          go_wp2_with fail
          refine (ref_Check8 CL4.out (by rw [chL_len]; omega) N4.out).mono ?_
          rintro e w5 ⟨rfl, hb5⟩
          rw [ch_check h24]
          have CL5 := Lib.hid (CL4.out.below hb5)
          have B5 := Lib.hid (B4.out.trans (hb5.mono B4.out.size))
          clear hb5
          go_wp2_with fail
          have MB := Lib.hid (Blk.new (W := w5) (t := 57) (l := [.int .i64 0, .nilFunc, .nilFunc]))
          refine (order_int _ _ _ _).mono ?_
          rintro e w6 ⟨rfl, hb6⟩
          replace MB := Lib.hid (MB.out.below hb6 MB.out.lt)
          have CL6 := Lib.hid (CL5.out.below ((Below.refl _ _).alloc (Nat.le_refl _) (.cells #[.int .i64 0, .nilFunc, .nilFunc] 57) |>.trans (hb6.mono (by simp))))
          have B6 := Lib.hid ((B5.out.alloc B5.out.size (.cells #[.int .i64 0, .nilFunc, .nilFunc] 57)).trans (hb6.mono (by have := B5.out.size; simp; omega)))
          clear hb6
          go_wp2_with fail
          refine (law_machine _).mono ?_
          rintro e w7 ⟨rfl, hb7⟩
          replace MB := Lib.hid (MB.out.below hb7 MB.out.lt)
          have CL7 := Lib.hid (CL6.out.below hb7)
          have B7 := Lib.hid (B6.out.trans (hb7.mono B6.out.size))
          clear hb7
          go_wp2_with fail
          refine (count_big CL7.out (by rw [chL_len]; exact h7) (by rw [chL_len]; omega)).mono ?_
          rintro e w8 ⟨rfl, hb8⟩
          have B8 := Lib.hid (B7.out.trans (hb8.mono B7.out.size))
          replace MB := Lib.hid (MB.out.below hb8 MB.out.lt)
          have m0 := MB.out.at (o := 0) rfl
          have m1 := MB.out.at (o := 1) rfl
          have m2 := MB.out.at (o := 2) rfl
          clear hb8
          go_wp2_with fail
          refine (check_int _ _ _ _).mono ?_
          rintro e w9 ⟨rfl, hb9⟩
          have B9 := Lib.hid (B8.out.trans (hb9.mono B8.out.size))
          replace MB := Lib.hid (MB.out.below hb9 MB.out.lt)
          have n0 := MB.out.at (o := 0) rfl
          have n1 := MB.out.at (o := 1) rfl
          have n2 := MB.out.at (o := 2) rfl
          clear hb9 m0 m1 m2
          go_wp2_with fail
          refine (count_int _ _ _ _).mono ?_
          rintro e w10 ⟨rfl, hb10⟩
          have B10 := Lib.hid (B9.out.trans (hb10.mono B9.out.size))
          clear hb10 n0 n1 n2
          go_wp2
          go_ret
          exact ⟨rfl, B10.out⟩
      · replace h24 : 24 < N := by omega
        have h7 : 7 < N := by omega
        refine (order_big CL.out (by rw [chL_len]; exact h24) (by rw [chL_len]; omega)).mono ?_
        rintro e w4 ⟨rfl, hb4⟩
        have CL4 := Lib.hid (CL.out.below hb4)
        have B4 := Lib.hid (B3.out.trans (hb4.mono B3.out.size))
        clear hb4
        go_wp2_with fail
        have CL5 := CL4
        have B5 := B4
        have MB := Lib.hid (Blk.new (W := w4) (t := 57) (l := [.int .i64 0, .nilFunc, .nilFunc]))
        refine (order_int _ _ _ _).mono ?_
        rintro e w6 ⟨rfl, hb6⟩
        replace MB := Lib.hid (MB.out.below hb6 MB.out.lt)
        have CL6 := Lib.hid (CL5.out.below ((Below.refl _ _).alloc (Nat.le_refl _) (.cells #[.int .i64 0, .nilFunc, .nilFunc] 57) |>.trans (hb6.mono (by simp))))
        have B6 := Lib.hid ((B5.out.alloc B5.out.size (.cells #[.int .i64 0, .nilFunc, .nilFunc] 57)).trans (hb6.mono (by have := B5.out.size; simp; omega)))
        clear hb6
        go_wp2_with fail
        refine (law_machine _).mono ?_
        rintro e w7 ⟨rfl, hb7⟩
        replace MB := Lib.hid (MB.out.below hb7 MB.out.lt)
        have CL7 := Lib.hid (CL6.out.below hb7)
        have B7 := Lib.hid (B6.out.trans (hb7.mono B6.out.size))
        clear hb7
        go_wp2_with fail
        refine (count_big CL7.out (by rw [chL_len]; exact h7) (by rw [chL_len]; omega)).mono ?_
        rintro e w8 ⟨rfl, hb8⟩
        have B8 := Lib.hid (B7.out.trans (hb8.mono B7.out.size))
        replace MB := Lib.hid (MB.out.below hb8 MB.out.lt)
        have m0 := MB.out.at (o := 0) rfl
        have m1 := MB.out.at (o := 1) rfl
        have m2 := MB.out.at (o := 2) rfl
        clear hb8
        go_wp2_with fail
        refine (check_int _ _ _ _).mono ?_
        rintro e w9 ⟨rfl, hb9⟩
        have B9 := Lib.hid (B8.out.trans (hb9.mono B8.out.size))
        replace MB := Lib.hid (MB.out.below hb9 MB.out.lt)
        have n0 := MB.out.at (o := 0) rfl
        have n1 := MB.out.at (o := 1) rfl
        have n2 := MB.out.at (o := 2) rfl
        clear hb9 m0 m1 m2
        go_wp2_with fail
        refine (count_int _ _ _ _).mono ?_
        rintro e w10 ⟨rfl, hb10⟩
        have B10 := Lib.hid (B9.out.trans (hb10.mono B9.out.size))
        clear hb10 n0 n1 n2
        go_wp2
        go_ret
        exact ⟨rfl, B10.out⟩

end Go.Proofs.Ytjfijlhnpmgboaa
