/- What the document's own answers of layer 2 (package bellmanref02) come to: contracts over the program's text. Texts of at most 1048576 bytes. -/
import Derived.Test.YtmfejpbijllojaaGreatMatch2
import Derived.BigQuiet
namespace Go.Proofs.YtmfejpbijllojaaGreat
open Go.RowKit

theorem match_false_at {F T : List (List UInt8)} (hF : levelsOk F = true) (hT : ∀ y, y ∈ T → y ≠ [35]) (k : Nat) (x y : List UInt8) (hk : k < aheadL F) (hx : F[k]? = some x) (hy : T[k]? = some y) (h1 : x ≠ [43]) (h2 : x ≠ y) : coversL F T = false := by
  cases e : coversL F T with
  | false => rfl
  | true =>
    rcases ((matches_iff F T hF hT).1 e).2 k hk with h | h
    · rw [hx] at h; injection h with h; exact absurd h h1
    · rw [hx, hy] at h; injection h with h; exact absurd h h2
theorem match_false_len {F T : List (List UInt8)} (hF : levelsOk F = true) (hT : ∀ y, y ∈ T → y ≠ [35]) (h : ¬ (if hashL F then aheadL F ≤ T.length else T.length = aheadL F)) : coversL F T = false := by
  cases e : coversL F T with
  | false => rfl
  | true => exact absurd ((matches_iff F T hF hT).1 e).1 h
/-- Are the first k alike? -/
def alikeTo (F T : List (List UInt8)) (k : Nat) : Prop := ∀ i, i < k → F[i]? = some [43] ∨ F[i]? = T[i]?
theorem alikeTo_step {F T : List (List UInt8)} {k : Nat} (h : alikeTo F T k) (hk : F[k]? = some [43] ∨ F[k]? = T[k]?) : alikeTo F T (k + 1) := fun i hi => by
  by_cases e : i = k
  · subst e; exact hk
  · exact h i (by omega)
theorem alikeTo_zero (F T : List (List UInt8)) : alikeTo F T 0 := fun i h => by omega
theorem match_true {F T : List (List UInt8)} (hF : levelsOk F = true) (hT : ∀ y, y ∈ T → y ≠ [35]) (hl : (if hashL F then aheadL F ≤ T.length else T.length = aheadL F)) (h : alikeTo F T (aheadL F)) : coversL F T = true :=
  (matches_iff F T hF hT).2 ⟨hl, h⟩
theorem last_at {F : List (List UInt8)} {x : List UInt8} (hx : F[F.length - 1]? = some x) : hashL F = (x == [35]) := by
  unfold hashL
  rw [List.getLast?_eq_getElem?, hx]; rfl

theorem apart_at (t : ByteArray) (h : 0 < t.size) : apartZ t.data.toList = ((t[0].toNat : Int) == 36) := by
  have hl := Lib.size_eq t
  unfold apartZ
  have e : t.data.toList.head? = some t[0] := by
    rw [List.head?_eq_getElem?, List.getElem?_eq_getElem (by omega)]; rfl
  rw [e, Bool.eq_iff_iff]
  simp only [beq_iff_eq, Option.some.injEq]
  constructor
  · intro h; rw [h]; rfl
  · intro h; exact UInt8.toNat_inj.1 (by show _ = 36; omega)

set_option maxRecDepth 100000 in
set_option maxHeartbeats 2000000 in
theorem ref2_Match_ok (f t : ByteArray) (w : World) (hf : filterZ f.data.toList = true) (ht : topicZ t.data.toList = true) (hw : (wildZ f.data.toList && apartZ t.data.toList) = false) :
    Calls Tryz.prog 38 #[.string f, .string t] w fun e w' => e = .returned (.bool (coversL (lv f.data.toList) (lv t.data.toList))) ∧ Below w.heap.size w w' := by
  have hfs := size_of_bytes (filterZ_bytes hf)
  have hts := size_of_bytes (topicZ_bytes ht)
  have hft : 0 < t.size := by omega
  have HP := Lib.hid (apart_at t hft)
  have HF := Lib.hid hf
  have HT := Lib.hid ht
  have HLF := Lib.hid (filterZ_levels hf)
  have HLT := Lib.hid (topic_no_hash t.data.toList ht)
  clear hf ht
  have h2 : wildZ f.data.toList = false ∨ (wildZ f.data.toList = true ∧ ((t[0].toNat : Int) == 36) = false) := by
    rw [HP.out] at hw
    cases e : wildZ f.data.toList with
    | false => exact .inl rfl
    | true => rw [e, Bool.true_and] at hw; exact .inr ⟨rfl, hw⟩
  clear hw
  rcases h2 with hwf | ⟨hwf, hp36⟩
  all_goals
    have HW := Lib.hid hwf
    clear hwf
    go_enter Tryz.func38, Tryz.ntmps38
    go_wp2_with fail
    refine (ref_Filter _ _ (by omega)).mono ?_
    rintro e w1 ⟨rfl, h1⟩
    rw [HF.out]
    go_wp2_with fail
    refine (ref_Topic _ _ (by omega)).mono ?_
    rintro e w' ⟨rfl, rfl⟩
    rw [HT.out]
    go_wp2_with fail
    refine (ref_Wild _ _ (by omega)).mono ?_
    rintro e w2 ⟨rfl, h2⟩
    rw [HW.out]
    go_wp2_with fail
    refine (ref_Levels_cells _ _ (by omega)).mono ?_
    rintro e w3 ⟨g, cap, rfl, hg1, hg2, hc, h3⟩
    go_wp2_with fail
    refine (ref_Levels_cells _ _ (by omega)).mono ?_
    rintro e w4 ⟨g', cap', rfl, hg1', hg2', hc', h4⟩
    have B4 := below_step (below_step (below_step h1 h2) h3) h4
    obtain ⟨F, HFF⟩ : ∃ F, Hid (lv f.data.toList = F) := ⟨_, rfl⟩
    obtain ⟨T, HTT⟩ : ∃ T, Hid (lv t.data.toList = T) := ⟨_, rfl⟩
    have hF33 : F.length ≤ 33 := by
      rw [← HFF.out, lv_length]; have := List.count_le_length (a := (47 : UInt8)) (l := f.data.toList); rw [← Lib.size_eq] at this; omega
    have hT33 : T.length ≤ 33 := by
      rw [← HTT.out, lv_length]; have := List.count_le_length (a := (47 : UInt8)) (l := t.data.toList); rw [← Lib.size_eq] at this; omega
    have hF0 : 0 < F.length := by rw [← HFF.out]; exact List.length_pos_iff.2 (lv_ne _)
    rw [HFF.out] at hc HLF ⊢
    rw [HTT.out] at hc' HLT ⊢
    have HC : Hid (∀ (i : Nat) x, F[i]? = some x → w4.cell? ⟨g, i, none⟩ = some (.string ⟨x.toArray⟩)) := fun i x hx => (h4.cell (p := ⟨g, i, none⟩) hg2).trans (hc i x hx)
    have HC' := Lib.hid hc'
    clear hc hc' h1 h2 h3 h4
    obtain ⟨z, HZ⟩ : ∃ z, Hid (F[F.length - 1]? = some z) := ⟨F[F.length - 1], List.getElem?_eq_getElem (by omega)⟩
    have HH := Lib.hid (last_at HZ.out)
    have hcz := HC.out _ z HZ.out
    have i1 : IntKind.i64.wrap ((F.length : Int) - 1) = (F.length : Int) - 1 := IntWalk.i64_in _ (by omega)
    have i2 : ((F.length : Int) - 1).toNat = F.length - 1 := by omega
    have i3 : (0 : Int) ≤ (F.length : Int) - 1 := by omega
    have i4 : (F.length : Int) - 1 < (F.length : Int) := by omega
    cases hz : (z == [35])
    · have hno := HH.out.trans hz
      have HN := Lib.hid (show aheadL F = F.length by unfold aheadL; rw [hno]; rfl)
      by_cases hTl : T.length = F.length
      · have HLEN := Lib.hid (show (if hashL F = true then aheadL F ≤ T.length else T.length = aheadL F) by rw [hno, HN.out]; simpa using hTl)
        have hTi : ((T.length : Int) != (F.length : Int)) = false := by simp; omega
        clear hno
        go_wp2
        go_loopw [8] (fun i wr => ∃ k : Nat, k ≤ F.length ∧ i = .int .i64 k ∧ Below w4.heap.size w4 wr ∧ Hid (alikeTo F T k)) (fun i _ => F.length - (intOf i).toNat)
        case atStart => exact ⟨0, Nat.zero_le _, rfl, Below.refl _ _, alikeTo_zero F T⟩
        case round =>
          obtain ⟨k, hk, rfl, hb, H⟩ := hrel
          by_cases hlt : k < F.length
          · obtain ⟨x, HX⟩ : ∃ x, Hid (F[k]? = some x) := ⟨F[k], List.getElem?_eq_getElem (by omega)⟩
            obtain ⟨y, HY⟩ : ∃ y, Hid (T[k]? = some y) := ⟨T[k], List.getElem?_eq_getElem (by omega)⟩
            have hcx := (hb.cell (p := ⟨g, k, none⟩) (by simp; omega)).trans (HC.out k x HX.out)
            have hcy := (hb.cell (p := ⟨g', k, none⟩) hg2').trans (HC'.out k y HY.out)
            have hd : decide ((k : Int) < (F.length : Int)) = true := by simp; omega
            cases hp : (x == [43])
            · cases he : (x == y)
              · have HP2 := Lib.hid hp
                have HE := Lib.hid he
                go_wp2
                go_quiet (fail)
                go_wp2
                go_ret
                refine ⟨?_, B4.trans ((below_draws hb _).mono B4.size)⟩
                rw [HFF.out, HTT.out, match_false_at HLF.out HLT.out k x y (by rw [HN.out]; omega) HX.out HY.out (by simpa using HP2.out) (by simpa using HE.out)]; rfl
              · have HE := Lib.hid he
                go_wp2
                go_quiet (fail)
                go_wp2
                go_roundw
                case rel => exact ⟨k + 1, by omega, by go_num, below_draws hb _, alikeTo_step H.out (.inr (by rw [HX.out, HY.out, show x = y by simpa using HE.out]))⟩
                case measure => simp [intOf]; omega
            · have HP2 := Lib.hid hp
              go_wp2
              go_quiet (fail)
              go_wp2
              go_roundw
              case rel => exact ⟨k + 1, by omega, by go_num, below_draws hb _, alikeTo_step H.out (.inl (by rw [HX.out, show x = [43] by simpa using HP2.out]))⟩
              case measure => simp [intOf]; omega
          · have hd : decide ((k : Int) < (F.length : Int)) = false := by simp; omega
            go_wp2
            go_ret
            refine ⟨?_, B4.trans (hb.mono B4.size)⟩
            rw [HFF.out, HTT.out, match_true HLF.out HLT.out HLEN.out (by rw [HN.out, show F.length = k by omega]; exact H.out)]; rfl
      · have HLEN := Lib.hid (show ¬ (if hashL F = true then aheadL F ≤ T.length else T.length = aheadL F) by rw [hno, HN.out]; simpa using hTl)
        have hTi : ((T.length : Int) != (F.length : Int)) = true := by simp; omega
        clear hno
        go_wp2
        go_ret
        exact ⟨by rw [HFF.out, HTT.out, match_false_len HLF.out HLT.out HLEN.out]; rfl, B4⟩
    · have hyes := HH.out.trans hz
      have HN := Lib.hid (show aheadL F = F.length - 1 by unfold aheadL; rw [hyes]; rfl)
      by_cases hTl : F.length - 1 ≤ T.length
      · have HLEN := Lib.hid (show (if hashL F = true then aheadL F ≤ T.length else T.length = aheadL F) by rw [hyes, HN.out]; simpa using hTl)
        have hTi : decide ((T.length : Int) < (F.length : Int) - 1) = false := by simp; omega
        clear hyes
        go_wp2
        go_loopw [8] (fun i wr => ∃ k : Nat, k ≤ (F.length - 1) ∧ i = .int .i64 k ∧ Below w4.heap.size w4 wr ∧ Hid (alikeTo F T k)) (fun i _ => (F.length - 1) - (intOf i).toNat)
        case atStart => exact ⟨0, Nat.zero_le _, rfl, Below.refl _ _, alikeTo_zero F T⟩
        case round =>
          obtain ⟨k, hk, rfl, hb, H⟩ := hrel
          by_cases hlt : k < (F.length - 1)
          · obtain ⟨x, HX⟩ : ∃ x, Hid (F[k]? = some x) := ⟨F[k], List.getElem?_eq_getElem (by omega)⟩
            obtain ⟨y, HY⟩ : ∃ y, Hid (T[k]? = some y) := ⟨T[k], List.getElem?_eq_getElem (by omega)⟩
            have hcx := (hb.cell (p := ⟨g, k, none⟩) (by simp; omega)).trans (HC.out k x HX.out)
            have hcy := (hb.cell (p := ⟨g', k, none⟩) hg2').trans (HC'.out k y HY.out)
            have hd : decide ((k : Int) < (F.length : Int) - 1) = true := by simp; omega
            cases hp : (x == [43])
            · cases he : (x == y)
              · have HP2 := Lib.hid hp
                have HE := Lib.hid he
                go_wp2
                go_quiet (fail)
                go_wp2
                go_ret
                refine ⟨?_, B4.trans ((below_draws hb _).mono B4.size)⟩
                rw [HFF.out, HTT.out, match_false_at HLF.out HLT.out k x y (by rw [HN.out]; omega) HX.out HY.out (by simpa using HP2.out) (by simpa using HE.out)]; rfl
              · have HE := Lib.hid he
                go_wp2
                go_quiet (fail)
                go_wp2
                go_roundw
                case rel => exact ⟨k + 1, by omega, by go_num, below_draws hb _, alikeTo_step H.out (.inr (by rw [HX.out, HY.out, show x = y by simpa using HE.out]))⟩
                case measure => simp [intOf]; omega
            · have HP2 := Lib.hid hp
              go_wp2
              go_quiet (fail)
              go_wp2
              go_roundw
              case rel => exact ⟨k + 1, by omega, by go_num, below_draws hb _, alikeTo_step H.out (.inl (by rw [HX.out, show x = [43] by simpa using HP2.out]))⟩
              case measure => simp [intOf]; omega
          · have hd : decide ((k : Int) < (F.length : Int) - 1) = false := by simp; omega
            go_wp2
            go_ret
            refine ⟨?_, B4.trans (hb.mono B4.size)⟩
            rw [HFF.out, HTT.out, match_true HLF.out HLT.out HLEN.out (by rw [HN.out, show (F.length - 1) = k by omega]; exact H.out)]; rfl
      · have HLEN := Lib.hid (show ¬ (if hashL F = true then aheadL F ≤ T.length else T.length = aheadL F) by rw [hyes, HN.out]; simpa using hTl)
        have hTi : decide ((T.length : Int) < (F.length : Int) - 1) = true := by simp; omega
        clear hyes
        go_wp2
        go_ret
        exact ⟨by rw [HFF.out, HTT.out, match_false_len HLF.out HLT.out HLEN.out]; rfl, B4⟩

theorem ref2_Match_wild (f t : ByteArray) (w : World) (hf : filterZ f.data.toList = true) (ht : topicZ t.data.toList = true) (hw : (wildZ f.data.toList && apartZ t.data.toList) = true) :
    Calls Tryz.prog 38 #[.string f, .string t] w fun e w' => e = .returned (.bool false) ∧ Below w.heap.size w w' := by
  have hfs := size_of_bytes (filterZ_bytes hf)
  have hts := size_of_bytes (topicZ_bytes ht)
  have hft : 0 < t.size := by omega
  rw [Bool.and_eq_true, apart_at t hft] at hw
  have HF := Lib.hid hf
  have HT := Lib.hid ht
  have HW := Lib.hid hw.1
  have hp36 := hw.2
  clear hf ht hw
  go_enter Tryz.func38, Tryz.ntmps38
  go_wp2_with fail
  refine (ref_Filter _ _ (by omega)).mono ?_
  rintro e w1 ⟨rfl, h1⟩
  rw [HF.out]
  go_wp2_with fail
  refine (ref_Topic _ _ (by omega)).mono ?_
  rintro e w' ⟨rfl, rfl⟩
  rw [HT.out]
  go_wp2_with fail
  refine (ref_Wild _ _ (by omega)).mono ?_
  rintro e w2 ⟨rfl, h2⟩
  rw [HW.out]
  go_wp2
  go_ret
  exact ⟨rfl, below_step h1 h2⟩

/-- bellmanref02.Match. -/
theorem ref2_Match (f t : ByteArray) (w : World) (hf : f.size ≤ 1048576) (ht : t.size ≤ 1048576) :
    Calls Tryz.prog 38 #[.string f, .string t] w fun e w' => e = .returned (.bool (matchZ f.data.toList t.data.toList)) ∧ Below w.heap.size w w' := by
  cases hff : filterZ f.data.toList
  · have H := Lib.hid (show matchZ f.data.toList t.data.toList = false by unfold matchZ coversZ; rw [hff]; simp)
    have HF := Lib.hid hff
    clear hff
    go_enter Tryz.func38, Tryz.ntmps38
    go_wp2_with fail
    refine (ref_Filter _ _ hf).mono ?_
    rintro e w1 ⟨rfl, h1⟩
    rw [HF.out]
    go_wp2
    go_ret
    exact ⟨by rw [H.out]; rfl, h1⟩
  · cases htt : topicZ t.data.toList
    · have H := Lib.hid (show matchZ f.data.toList t.data.toList = false by unfold matchZ; rw [htt]; simp)
      have HF := Lib.hid hff
      have HT := Lib.hid htt
      clear hff htt
      go_enter Tryz.func38, Tryz.ntmps38
      go_wp2_with fail
      refine (ref_Filter _ _ hf).mono ?_
      rintro e w1 ⟨rfl, h1⟩
      rw [HF.out]
      go_wp2_with fail
      refine (ref_Topic _ _ ht).mono ?_
      rintro e w' ⟨rfl, rfl⟩
      rw [HT.out]
      go_wp2
      go_ret
      exact ⟨by rw [H.out]; rfl, h1⟩
    · cases hw : (wildZ f.data.toList && apartZ t.data.toList)
      · refine (ref2_Match_ok f t w hff htt hw).mono ?_
        rintro e w1 ⟨rfl, h1⟩
        refine ⟨?_, h1⟩
        unfold matchZ coversZ; rw [hff, htt, hw, filter_of_topic _ htt]; simp
      · refine (ref2_Match_wild f t w hff htt hw).mono ?_
        rintro e w1 ⟨rfl, h1⟩
        refine ⟨?_, h1⟩
        unfold matchZ coversZ; rw [hw]; simp

end Go.Proofs.YtmfejpbijllojaaGreat
