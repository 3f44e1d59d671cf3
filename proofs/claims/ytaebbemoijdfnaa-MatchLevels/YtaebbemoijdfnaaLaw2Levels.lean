/- The statement MatchLevels of layer 2, as a walk: it returns true and changes nothing that was there. No conditions. -/
import Derived.Test.YtaebbemoijdfnaaLaw2
import Derived.OpenShut
namespace Go.Proofs.Ytaebbemoijdfnaa
open Go.RowKit Go.Shelf

/-- What was put together of the levels ahead of the place. -/
theorem tail_step (L : List (List UInt8)) (j K : Nat) (x : List UInt8) (hx : L[j]? = some x) (h : j < K) : tailZ (L.take (min (j + 1) K)) = tailZ (L.take (min j K)) ++ x ++ [47] := by
  obtain ⟨hj, e⟩ := List.getElem?_eq_some_iff.1 hx
  rw [Nat.min_eq_left (by omega), Nat.min_eq_left (by omega), List.take_succ_eq_append_getElem hj, tailZ_snoc, e]
theorem tail_stay (L : List (List UInt8)) (j K : Nat) (h : ¬ j < K) : tailZ (L.take (min (j + 1) K)) = tailZ (L.take (min j K)) := by
  rw [Nat.min_eq_right (by omega), Nat.min_eq_right (by omega)]
theorem set_at (L : List (List UInt8)) (j K : Nat) (x : List UInt8) (hx : L[j]? = some x) (hj : j < (L.set K [43]).length) : (L.set K [43])[j] = if j = K then [43] else x := by
  obtain ⟨h, e⟩ := List.getElem?_eq_some_iff.1 hx
  rw [List.getElem_set]
  by_cases hk : K = j
  · rw [if_pos hk, if_pos hk.symm]
  · rw [if_neg hk, if_neg (fun e => hk e.symm), e]

set_option maxRecDepth 100000 in
set_option maxHeartbeats 2000000 in
theorem levels_walk (t : ByteArray) (at_ : Int) (h0 : 0 ≤ at_) (h1 : at_ ≤ 255) (w : World) (ht : topicZ t.data.toList = true) :
    Calls Try.prog 5 #[.string t, .int .u8 at_] w fun e w' => e = .returned (.bool true) ∧ Below w.heap.size w w' := by
  have hts := size_of_bytes (topicZ_bytes ht)
  have ht1 : t.size ≤ 1048576 := by omega
  have HT := Lib.hid ht
  clear ht
  go_enter Try.func5, Try.ntmps5
  go_wp2_with fail
  refine (awake2 _).mono ?_
  rintro e w1 ⟨rfl, h1'⟩
  go_wp2_with fail
  refine (ref_Topic _ _ ht1).mono ?_
  rintro e w' ⟨rfl, rfl⟩
  rw [HT.out]
  go_wp2_with fail
  refine (ref_Levels_cells _ _ ht1).mono ?_
  rintro e w2 ⟨g, cap, rfl, hg1, hg2, hc, h2⟩
  have B2 := below_step h1' h2
  clear h1' h2
  have hl33 : (lv t.data.toList).length ≤ 33 := by
    rw [lv_length]; have := List.count_le_length (a := (47 : UInt8)) (l := t.data.toList); rw [← Lib.size_eq] at this; omega
  have hl0 : 0 < (lv t.data.toList).length := List.length_pos_iff.2 (lv_ne _)
  obtain ⟨L, HL⟩ : ∃ L, Hid (lv t.data.toList = L) := ⟨_, rfl⟩
  rw [HL.out] at hc hl33 hl0 ⊢
  have HC := Lib.hid hc
  clear hc
  obtain ⟨K, hK, hKL⟩ : ∃ K : Nat, at_.tmod (L.length : Int) = (K : Int) ∧ K < L.length := by
    refine ⟨(at_.tmod (L.length : Int)).toNat, ?_, ?_⟩
    · rw [Int.toNat_of_nonneg (Int.tmod_nonneg _ h0)]
    · have := Int.tmod_lt_of_pos at_ (b := (L.length : Int)) (by omega)
      have := Int.tmod_nonneg (L.length : Int) h0
      omega
  go_wp2
  have HM1 : Hid (∀ hl : (joinZ (L.set K [43])).length ≤ 32, matchZ (joinZ (L.set K [43])) t.data.toList = (decide (0 < K) || !apartZ t.data.toList)) := fun hl => by
    have := match_plus t.data.toList HT.out K (by rw [HL.out]; exact hKL); rw [HL.out] at this; exact this hl
  have HM2 : Hid (∀ hl : (joinZ (L.take K ++ [[35]])).length ≤ 32, matchZ (joinZ (L.take K ++ [[35]])) t.data.toList = (decide (0 < K) || !apartZ t.data.toList)) := fun hl => by
    have := match_rest t.data.toList HT.out K (by rw [HL.out]; exact hKL); rw [HL.out] at this; exact this hl
  have HXL : Hid (∀ (j : Nat) x, L[j]? = some x → x.length ≤ 32) := fun j x hx => by
    have h1 := lv_mem_le t.data.toList x (by rw [HL.out]; exact List.mem_of_getElem? hx)
    rw [← Lib.size_eq] at h1; omega
  go_loop [7, 8, 9] (fun f g i => ∃ (j : Nat) (fb gb : ByteArray), j ≤ L.length ∧ fb.size ≤ 40 * j ∧ gb.size ≤ 40 * j ∧ i = .int .i64 j ∧ f = .string fb ∧ g = .string gb ∧ Hid (fb.data.toList = joinZ ((L.set K [43]).take j)) ∧ Hid (gb.data.toList = tailZ (L.take (min j K)))) (fun _ _ i => L.length - (intOf i).toNat)
  case atStart => exact ⟨0, ⟨#[]⟩, ⟨#[]⟩, Nat.zero_le _, Nat.le_refl _, Nat.le_refl _, rfl, rfl, rfl, rfl, by show _ = _; simp [tailZ]⟩
  case round =>
    obtain ⟨j, fb, gb, hj, hfb, hgb, rfl, rfl, rfl, HF, HG⟩ := hrel
    by_cases hlt : j < L.length
    · obtain ⟨x, HX⟩ : ∃ x, Hid (L[j]? = some x) := ⟨L[j], List.getElem?_eq_getElem hlt⟩
      have hcx := HC.out j x HX.out
      have hxl := HXL.out j x HX.out
      have hjs : j < (L.set K [43]).length := by rw [List.length_set]; exact hlt
      have HE := Lib.hid (set_at L j K x HX.out hjs)
      by_cases hlk : j < K
      · have HTS := Lib.hid (tail_step L j K x HX.out hlk)
        have hek : ((j : Int) == (K : Int)) = false := by rw [beq_eq_false_iff_ne]; omega
        by_cases h0 : 0 < j
        · have HJS := Lib.hid (join_step (L.set K [43]) j hjs h0)
          go_wp2
          go_round
          case rel =>
            refine ⟨j + 1, fb ++ ⟨#[47]⟩ ++ ⟨x.toArray⟩, gb ++ ⟨x.toArray⟩ ++ ⟨#[47]⟩, by omega, ?_, ?_, by go_num, rfl, rfl, ?_, ?_⟩
            · rw [ByteArray.size_append, ByteArray.size_append]
              show fb.size + 1 + x.toArray.size ≤ _
              simp; omega
            · rw [ByteArray.size_append, ByteArray.size_append]
              show gb.size + x.toArray.size + 1 ≤ _
              simp; omega
            · show (fb ++ ⟨#[47]⟩ ++ ⟨x.toArray⟩ : ByteArray).data.toList = _
              rw [data_cat, data_cat, HF.out, HJS.out, HE.out, if_neg (by omega)]; simp
            · show (gb ++ ⟨x.toArray⟩ ++ ⟨#[47]⟩ : ByteArray).data.toList = _
              rw [data_cat, data_cat, HG.out, HTS.out]
          case measure => simp [intOf]; omega
        · obtain rfl : j = 0 := by omega
          have HJF := Lib.hid (join_first (L.set K [43]) hjs)
          go_wp2
          go_round
          case rel =>
            refine ⟨0 + 1, fb ++ ⟨x.toArray⟩, gb ++ ⟨x.toArray⟩ ++ ⟨#[47]⟩, by omega, ?_, ?_, by go_num, rfl, rfl, ?_, ?_⟩
            · rw [ByteArray.size_append]
              show fb.size + x.toArray.size ≤ _
              simp; omega
            · rw [ByteArray.size_append, ByteArray.size_append]
              show gb.size + x.toArray.size + 1 ≤ _
              simp; omega
            · show (fb ++ ⟨x.toArray⟩ : ByteArray).data.toList = _
              rw [data_cat, HF.out, HJF.out, HE.out, if_neg (by omega)]; rfl
            · show (gb ++ ⟨x.toArray⟩ ++ ⟨#[47]⟩ : ByteArray).data.toList = _
              rw [data_cat, data_cat, HG.out, HTS.out]
          case measure => simp [intOf]; omega
      · have HTS := Lib.hid (tail_stay L j K hlk)
        by_cases hek : j = K
        · subst hek
          by_cases h0 : 0 < j
          · have HJS := Lib.hid (join_step (L.set j [43]) j hjs h0)
            go_wp2
            go_round
            case rel =>
              refine ⟨j + 1, fb ++ ⟨#[47]⟩ ++ ⟨#[43]⟩, gb, by omega, ?_, by omega, by go_num, rfl, rfl, ?_, ?_⟩
              · rw [ByteArray.size_append, ByteArray.size_append]
                show fb.size + 1 + 1 ≤ _
                omega
              · show (fb ++ ⟨#[47]⟩ ++ ⟨#[43]⟩ : ByteArray).data.toList = _
                rw [data_cat, data_cat, HF.out, HJS.out, HE.out, if_pos rfl]; simp
              · rw [HTS.out]; exact HG
            case measure => simp [intOf]; omega
          · obtain rfl : j = 0 := by omega
            have HJF := Lib.hid (join_first (L.set 0 [43]) hjs)
            go_wp2
            go_round
            case rel =>
              refine ⟨0 + 1, fb ++ ⟨#[43]⟩, gb, by omega, ?_, by omega, by go_num, rfl, rfl, ?_, ?_⟩
              · rw [ByteArray.size_append]
                show fb.size + 1 ≤ _
                omega
              · show (fb ++ ⟨#[43]⟩ : ByteArray).data.toList = _
                rw [data_cat, HF.out, HJF.out, HE.out, if_pos rfl]; rfl
              · rw [HTS.out]; exact HG
            case measure => simp [intOf]; omega
        · have h0 : 0 < j := by omega
          have heb : ((j : Int) == (K : Int)) = false := by rw [beq_eq_false_iff_ne]; omega
          have HJS := Lib.hid (join_step (L.set K [43]) j hjs h0)
          go_wp2
          go_round
          case rel =>
            refine ⟨j + 1, fb ++ ⟨#[47]⟩ ++ ⟨x.toArray⟩, gb, by omega, ?_, by omega, by go_num, rfl, rfl, ?_, ?_⟩
            · rw [ByteArray.size_append, ByteArray.size_append]
              show fb.size + 1 + x.toArray.size ≤ _
              simp; omega
            · show (fb ++ ⟨#[47]⟩ ++ ⟨x.toArray⟩ : ByteArray).data.toList = _
              rw [data_cat, data_cat, HF.out, HJS.out, HE.out, if_neg hek]; simp
            · rw [HTS.out]; exact HG
          case measure => simp [intOf]; omega
    · obtain rfl : j = L.length := by omega
      have HF' := Lib.hid (show fb.data.toList = joinZ (L.set K [43]) by
        rw [HF.out, List.take_of_length_le (by rw [List.length_set]; exact Nat.le_refl _)])
      have HG' := Lib.hid (show (gb ++ ⟨#[35]⟩ : ByteArray).data.toList = joinZ (L.take K ++ [[35]]) by
        rw [data_cat, HG.out, Nat.min_eq_right (by omega), joinZ_tail])
      clear HF HG HC HXL
      obtain ⟨wb, HWB⟩ : ∃ wb, Hid ((decide (0 < K) || !apartZ t.data.toList) = wb) := ⟨_, rfl⟩
      rw [HWB.out] at HM1 HM2
      have hlf := Lib.size_eq fb
      have hlg := Lib.size_eq (gb ++ ⟨#[35]⟩)
      rw [HF'.out] at hlf
      rw [HG'.out] at hlg
      have hnm : 32 < fb.size → matchZ fb.data.toList t.data.toList = false := fun h => by
        have hb : bytesOk fb.data.toList = false := by
          unfold bytesOk; rw [← Lib.size_eq, decide_eq_false (show ¬ fb.size ≤ 32 by omega)]; simp
        unfold matchZ coversZ filterZ; rw [hb]; simp
      have HNM := Lib.hid hnm
      have h0t : 0 < t.size := by omega
      have HAP := Lib.hid (apart_at t h0t)
      clear hnm
      go_upto_region 20 with fail
      generalize (gb ++ ⟨#[35]⟩ : ByteArray) = gc at *
      clear hgb hfb
      go_cut [11] from 54 to 91 (fun c wx => c = .bool wb ∧ wx = w2)
      case first =>
        by_cases hk0 : 0 < K
        · have HW1 := Lib.hid (show true = wb by rw [← HWB.out, decide_eq_true hk0]; rfl)
          go_wp2
          go_meet
          case rel => exact ⟨by rw [HW1.out], rfl⟩
        · have HW1 := Lib.hid (show (!((t[0].toNat : Int) == 36)) = wb by rw [← HWB.out, decide_eq_false hk0, HAP.out]; rfl)
          have hk1 : decide (0 < (K : Int)) = false := by simp; omega
          go_wp2
          go_meet
          case rel => exact ⟨by rw [← HW1.out]; rfl, rfl⟩
      case rest =>
        obtain ⟨rfl, rfl⟩ := hcut
        by_cases hf32 : fb.size ≤ 32
        · by_cases hg32 : gc.size ≤ 32
          · have H1 := Lib.hid (show matchZ fb.data.toList t.data.toList = wb by rw [HF'.out]; exact HM1.out (by omega))
            have H2 := Lib.hid (show matchZ gc.data.toList t.data.toList = wb by rw [HG'.out]; exact HM2.out (by omega))
            have d1 : decide ((32 : Int) < (fb.size : Int)) = false := by simp; omega
            have d2 : decide ((32 : Int) < (gc.size : Int)) = false := by simp; omega
            go_wp2_with fail
            refine (match_Match _ _ _).mono ?_
            rintro e w3 ⟨rfl, h3⟩
            rw [H1.out]
            go_wp2_with fail
            refine (match_Match _ _ _).mono ?_
            rintro e w4 ⟨rfl, h4⟩
            rw [H2.out]
            go_wp2
            go_ret
            exact ⟨by simp, below_step (below_step B2 h3) h4⟩
          · have d1 : decide ((32 : Int) < (fb.size : Int)) = false := by simp; omega
            have d2 : decide ((32 : Int) < (gc.size : Int)) = true := by simp; omega
            have d3 : decide ((fb.size : Int) ≤ 32) = true := by simp; omega
            go_wp2_with fail
            refine (match_Match _ _ _).mono ?_
            rintro e w3 ⟨rfl, h3⟩
            cases hm : matchZ fb.data.toList t.data.toList
            · go_wp2
              go_ret
              exact ⟨rfl, below_step B2 h3⟩
            · go_wp2
              go_ret
              exact ⟨rfl, below_step B2 h3⟩
        · have d1 : decide ((32 : Int) < (fb.size : Int)) = true := by simp; omega
          have H1 := Lib.hid (HNM.out (by omega))
          go_wp2_with fail
          refine (match_Match _ _ _).mono ?_
          rintro e w3 ⟨rfl, h3⟩
          rw [H1.out]
          go_wp2
          go_ret
          exact ⟨rfl, below_step B2 h3⟩

/-- bellmanref01.Topic, of a text of whatever length. -/
theorem ref_Topic_any (s : ByteArray) (w : World) :
    Calls Try.prog 14 #[.string s] w fun e w' => e = .returned (.bool (topicZ s.data.toList)) ∧ w = w' := by
  by_cases h : s.size ≤ 1048576
  · exact ref_Topic s w h
  · have hl := Lib.size_eq s
    have c1 : 1 ≤ s.size := by omega
    have c2 : ¬ s.size ≤ 32 := by omega
    have H := Lib.hid (show topicZ s.data.toList = false by
      unfold topicZ bytesOk; rw [← hl]; simp [c2])
    clear hl h
    go_enter Try.func14, Try.ntmps14
    go_wp2
    go_ret
    exact ⟨by rw [H.out]; rfl, rfl⟩

theorem levels_walk_no (t : ByteArray) (at_ : Int) (w : World) (ht : topicZ t.data.toList = false) :
    Calls Try.prog 5 #[.string t, .int .u8 at_] w fun e w' => e = .returned (.bool true) ∧ Below w.heap.size w w' := by
  have HT := Lib.hid ht
  clear ht
  go_enter Try.func5, Try.ntmps5
  go_wp2_with fail
  refine (awake2 _).mono ?_
  rintro e w1 ⟨rfl, h1⟩
  go_wp2_with fail
  refine (ref_Topic_any _ _).mono ?_
  rintro e w' ⟨rfl, rfl⟩
  rw [HT.out]
  go_wp2
  go_ret
  exact ⟨rfl, h1⟩

theorem levels_any (t : ByteArray) (at_ : Int) (hf : (Lit.int .u8 at_).wf = true) (w : World) :
    Calls Try.prog 5 #[.string t, .int .u8 at_] w fun e w' => e = .returned (.bool true) ∧ Below w.heap.size w w' := by
  have hb := bounds_u8 hf
  cases ht : topicZ t.data.toList
  · exact levels_walk_no t at_ w ht
  · exact levels_walk t at_ hb.1 hb.2 w ht

end Go.Proofs.Ytaebbemoijdfnaa
