/- What the document's own answers of layer 2 (package bellmanref02: Covers, Any) come to: contracts over the program's text. Texts of at most 1048576 bytes. -/
import Derived.Test.YtaebbemoijdfnaaRef2
namespace Go.Proofs.Ytaebbemoijdfnaa
open Go.RowKit

set_option maxRecDepth 100000 in
set_option maxHeartbeats 2000000 in
theorem ref2_Covers_ok (a b : ByteArray) (w : World) (hfa : filterZ a.data.toList = true) (hfb : filterZ b.data.toList = true) (hw : (wildZ a.data.toList && apartZ b.data.toList) = false) :
    Calls Try.prog 11 #[.string a, .string b] w fun e w' => e = .returned (.bool (coversL (lv a.data.toList) (lv b.data.toList))) ∧ Below w.heap.size w w' := by
  have has := size_of_bytes (filterZ_bytes hfa)
  have hbs := size_of_bytes (filterZ_bytes hfb)
  have hb0 : 0 < b.size := by omega
  have HP := Lib.hid (apart_at b hb0)
  have HA := Lib.hid hfa
  have HB := Lib.hid hfb
  clear hfa hfb
  have h2 : wildZ a.data.toList = false ∨ (wildZ a.data.toList = true ∧ ((b[0].toNat : Int) == 36) = false) := by
    rw [HP.out] at hw
    cases e : wildZ a.data.toList with
    | false => exact .inl rfl
    | true => rw [e, Bool.true_and] at hw; exact .inr ⟨rfl, hw⟩
  clear hw
  rcases h2 with hwf | ⟨hwf, hp36⟩
  all_goals
    have HW := Lib.hid hwf
    clear hwf
    go_enter Try.func11, Try.ntmps11
    go_wp2_with fail
    refine (ref_Filter _ _ (by omega)).mono ?_
    rintro e w1 ⟨rfl, h1⟩
    rw [HA.out]
    go_wp2_with fail
    refine (ref_Filter _ _ (by omega)).mono ?_
    rintro e w2 ⟨rfl, h2⟩
    rw [HB.out]
    go_wp2_with fail
    refine (ref_Wild _ _ (by omega)).mono ?_
    rintro e w3 ⟨rfl, h3⟩
    rw [HW.out]
    go_wp2_with fail
    refine (ref_Levels_cells _ _ (by omega)).mono ?_
    rintro e w4 ⟨g, cap, rfl, hg1, hg2, hc, h4⟩
    go_wp2_with fail
    refine (ref_Levels_cells _ _ (by omega)).mono ?_
    rintro e w5 ⟨g', cap', rfl, hg1', hg2', hc', h5⟩
    have B5 := below_step (below_step (below_step (below_step h1 h2) h3) h4) h5
    obtain ⟨F, HFF⟩ : ∃ F, Hid (lv a.data.toList = F) := ⟨_, rfl⟩
    obtain ⟨G, HGG⟩ : ∃ G, Hid (lv b.data.toList = G) := ⟨_, rfl⟩
    have hF33 : F.length ≤ 33 := by
      rw [← HFF.out, lv_length]; have := List.count_le_length (a := (47 : UInt8)) (l := a.data.toList); rw [← Lib.size_eq] at this; omega
    have hG33 : G.length ≤ 33 := by
      rw [← HGG.out, lv_length]; have := List.count_le_length (a := (47 : UInt8)) (l := b.data.toList); rw [← Lib.size_eq] at this; omega
    rw [HFF.out] at hc ⊢
    rw [HGG.out] at hc' ⊢
    have HC : Hid (∀ (i : Nat) x, F[i]? = some x → w5.cell? ⟨g, i, none⟩ = some (.string ⟨x.toArray⟩)) := fun i x hx => (h5.cell (p := ⟨g, i, none⟩) hg2).trans (hc i x hx)
    have HC' := Lib.hid hc'
    clear hc hc' h1 h2 h3 h4
    have hgw : g < w5.heap.size := Nat.lt_of_lt_of_le hg2 h5.size
    clear h5
    go_wp2
    go_loopw [7] (fun i wr => ∃ k : Nat, k ≤ F.length ∧ k ≤ G.length ∧ i = .int .i64 k ∧ Below w5.heap.size w5 wr ∧ Hid (coversL F G = coversL (F.drop k) (G.drop k))) (fun i _ => F.length - (intOf i).toNat)
    case atStart => exact ⟨0, Nat.zero_le _, Nat.zero_le _, rfl, Below.refl _ _, rfl⟩
    case round =>
      obtain ⟨k, hk, hkg, rfl, hb, H⟩ := hrel
      by_cases hlt : k < F.length
      · obtain ⟨x, HX⟩ : ∃ x, Hid (F[k]? = some x) := ⟨F[k], List.getElem?_eq_getElem (by omega)⟩
        have hcx := (hb.cell (p := ⟨g, k, none⟩) hgw).trans (HC.out k x HX.out)
        have hd : decide ((k : Int) < (F.length : Int)) = true := by simp; omega
        cases hx : (x == [35])
        · have HXN := Lib.hid (show x ≠ [35] by simpa using hx)
          by_cases hkl : k < G.length
          · obtain ⟨y, HY⟩ : ∃ y, Hid (G[k]? = some y) := ⟨G[k], List.getElem?_eq_getElem hkl⟩
            have hcy := (hb.cell (p := ⟨g', k, none⟩) hg2').trans (HC'.out k y HY.out)
            have hge : decide (G.length ≤ k) = false := by simp; omega
            have HAL := Lib.hid (show alikeZ x y = ((x == y) || ((x == [43]) && !(y == [35]))) from rfl)
            have HST := Lib.hid (coversL_step F G k x y HX.out HY.out HXN.out)
            cases h1 : (x == y)
            · cases h2 : (x == [43])
              · rw [h1, h2] at HAL
                go_wp2
                go_quiet (fail)
                go_wp2
                go_ret
                refine ⟨?_, B5.trans ((below_draws hb _).mono B5.size)⟩
                rw [HFF.out, HGG.out, H.out, HST.out, HAL.out]; rfl
              · cases h3 : (y == [35])
                · rw [h1, h2, h3] at HAL
                  go_wp2
                  go_quiet (fail)
                  go_wp2
                  go_roundw
                  case rel => exact ⟨k + 1, by omega, by omega, by go_num, below_draws hb _, by rw [H.out, HST.out, HAL.out]; rfl⟩
                  case measure => simp [intOf]; omega
                · rw [h1, h2, h3] at HAL
                  go_wp2
                  go_quiet (fail)
                  go_wp2
                  go_ret
                  refine ⟨?_, B5.trans ((below_draws hb _).mono B5.size)⟩
                  rw [HFF.out, HGG.out, H.out, HST.out, HAL.out]; rfl
            · obtain rfl : x = y := by simpa using h1
              rw [h1] at HAL
              clear h1
              go_wp2
              go_quiet (fail)
              go_wp2
              go_roundw
              case rel => exact ⟨k + 1, by omega, by omega, by go_num, below_draws hb _, by rw [H.out, HST.out, HAL.out]; rfl⟩
              case measure => simp [intOf]; omega
          · have hge : decide (G.length ≤ k) = true := by simp; omega
            have HSH := Lib.hid (coversL_short F G k x HX.out HXN.out (by omega))
            go_wp2
            go_quiet (fail)
            go_wp2
            go_ret
            refine ⟨?_, B5.trans ((below_draws hb _).mono B5.size)⟩
            rw [HFF.out, HGG.out, H.out, HSH.out]; rfl
        · have HXE := Lib.hid (show x = [35] by simpa using hx)
          go_wp2
          go_ret
          refine ⟨?_, B5.trans (hb.mono B5.size)⟩
          rw [HFF.out, HGG.out, H.out, coversL_at_hash F G k (by rw [HX.out, HXE.out])]; rfl
      · have hd : decide ((k : Int) < (F.length : Int)) = false := by simp; omega
        go_wp2
        go_ret
        refine ⟨?_, B5.trans (hb.mono B5.size)⟩
        have e : ((F.length : Int) == (G.length : Int)) = decide (G.length ≤ k) := by
          rw [Bool.eq_iff_iff, beq_iff_eq, decide_eq_true_iff]
          omega
        rw [HFF.out, HGG.out, H.out, coversL_end F G k (by omega), ← e]; rfl

theorem ref2_Covers_wild (a b : ByteArray) (w : World) (hfa : filterZ a.data.toList = true) (hfb : filterZ b.data.toList = true) (hw : (wildZ a.data.toList && apartZ b.data.toList) = true) :
    Calls Try.prog 11 #[.string a, .string b] w fun e w' => e = .returned (.bool false) ∧ Below w.heap.size w w' := by
  have has := size_of_bytes (filterZ_bytes hfa)
  have hbs := size_of_bytes (filterZ_bytes hfb)
  have hb0 : 0 < b.size := by omega
  rw [Bool.and_eq_true, apart_at b hb0] at hw
  have HA := Lib.hid hfa
  have HB := Lib.hid hfb
  have HW := Lib.hid hw.1
  have hp36 := hw.2
  clear hfa hfb hw
  go_enter Try.func11, Try.ntmps11
  go_wp2_with fail
  refine (ref_Filter _ _ (by omega)).mono ?_
  rintro e w1 ⟨rfl, h1⟩
  rw [HA.out]
  go_wp2_with fail
  refine (ref_Filter _ _ (by omega)).mono ?_
  rintro e w2 ⟨rfl, h2⟩
  rw [HB.out]
  go_wp2_with fail
  refine (ref_Wild _ _ (by omega)).mono ?_
  rintro e w3 ⟨rfl, h3⟩
  rw [HW.out]
  go_wp2
  go_ret
  exact ⟨rfl, below_step (below_step h1 h2) h3⟩

/-- bellmanref02.Covers. -/
theorem ref2_Covers (a b : ByteArray) (w : World) (ha : a.size ≤ 1048576) (hb : b.size ≤ 1048576) :
    Calls Try.prog 11 #[.string a, .string b] w fun e w' => e = .returned (.bool (coversZ a.data.toList b.data.toList)) ∧ Below w.heap.size w w' := by
  cases hfa : filterZ a.data.toList
  · have H := Lib.hid (show coversZ a.data.toList b.data.toList = false by unfold coversZ; rw [hfa]; simp)
    have HA := Lib.hid hfa
    clear hfa
    go_enter Try.func11, Try.ntmps11
    go_wp2_with fail
    refine (ref_Filter _ _ ha).mono ?_
    rintro e w1 ⟨rfl, h1⟩
    rw [HA.out]
    go_wp2
    go_ret
    exact ⟨by rw [H.out]; rfl, h1⟩
  · cases hfb : filterZ b.data.toList
    · have H := Lib.hid (show coversZ a.data.toList b.data.toList = false by unfold coversZ; rw [hfb]; simp)
      have HA := Lib.hid hfa
      have HB := Lib.hid hfb
      clear hfa hfb
      go_enter Try.func11, Try.ntmps11
      go_wp2_with fail
      refine (ref_Filter _ _ ha).mono ?_
      rintro e w1 ⟨rfl, h1⟩
      rw [HA.out]
      go_wp2_with fail
      refine (ref_Filter _ _ hb).mono ?_
      rintro e w2 ⟨rfl, h2⟩
      rw [HB.out]
      go_wp2
      go_ret
      exact ⟨by rw [H.out]; rfl, below_step h1 h2⟩
    · cases hw : (wildZ a.data.toList && apartZ b.data.toList)
      · refine (ref2_Covers_ok a b w hfa hfb hw).mono ?_
        rintro e w1 ⟨rfl, h1⟩
        refine ⟨?_, h1⟩
        unfold coversZ; rw [hfa, hfb, hw]; simp
      · refine (ref2_Covers_wild a b w hfa hfb hw).mono ?_
        rintro e w1 ⟨rfl, h1⟩
        refine ⟨?_, h1⟩
        unfold coversZ; rw [hw]; simp

set_option maxHeartbeats 1000000 in
/-- bellmanref02.Any. -/
theorem ref2_Any (a : Option Addr) (cap : Nat) (L : List (List UInt8)) (t : ByteArray) (w : World) (hL : L.length ≤ 1048576) (hLs : ∀ x, x ∈ L → x.length ≤ 1048576) (ht : t.size ≤ 1048576) (hT : TextsIn w a L) :
    Calls Try.prog 13 #[.slice a L.length cap, .string t] w fun e w' => e = .returned (.bool (L.any fun x => matchZ x t.data.toList)) ∧ Below w.heap.size w w' := by
  have HT := Lib.hid hT
  have HS := Lib.hid hLs
  clear hT hLs
  go_enter Try.func13, Try.ntmps13
  go_wp2
  go_loopw [5] (fun i wr => ∃ k : Nat, k ≤ L.length ∧ i = .int .i64 k ∧ Below w.heap.size w wr ∧ Hid ((L.take k).any (fun x => matchZ x t.data.toList) = false)) (fun i _ => L.length - (intOf i).toNat)
  case atStart => exact ⟨0, Nat.zero_le _, rfl, Below.refl _ _, rfl⟩
  case round =>
    obtain ⟨k, hk, rfl, hb, H⟩ := hrel
    by_cases hlt2 : k < L.length
    · obtain ⟨x, HX⟩ : ∃ x, Hid (L[k]? = some x) := ⟨L[k], List.getElem?_eq_getElem hlt2⟩
      obtain ⟨b, off, rfl, hbl, hcx⟩ := (HT.out.below hb) k x HX.out
      have hxs : (⟨x.toArray⟩ : ByteArray).size ≤ 1048576 := by
        have := HS.out x (List.mem_of_getElem? HX.out)
        show x.toArray.size ≤ _
        simpa using this
      go_wp2_with fail
      refine (ref2_Match _ t _ hxs ht).mono ?_
      rintro e w2 ⟨rfl, h2⟩
      have hb2 := hb.trans (h2.mono hb.size)
      cases hm : matchZ (⟨x.toArray⟩ : ByteArray).data.toList t.data.toList
      · have HM := Lib.hid hm
        clear hm
        go_wp2
        go_roundw
        case rel => exact ⟨k + 1, by omega, by go_num, hb2, any_take_step _ L k x HX.out H.out HM.out⟩
        case measure => simp [intOf]; omega
      · have HM := Lib.hid hm
        clear hm
        go_wp2
        go_ret
        exact ⟨by rw [any_at _ L k x HX.out HM.out]; rfl, hb2⟩
    · go_wp2
      go_ret
      refine ⟨?_, hb⟩
      have := H.out
      rw [List.take_of_length_le (by omega)] at this
      rw [this]; rfl

end Go.Proofs.Ytaebbemoijdfnaa
