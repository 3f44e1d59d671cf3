/- What bellmanref01.Texts (the same texts?) comes to: a contract over the program's text. Slices of at most 1048576 texts. · What the document's own answers of layer 2 (package bellmanref02) come to: contracts over the program's text. Texts of at most 1048576 bytes. · What the document's own answers of layer 2 (package bellmanref02: Covers, Any) come to: contracts over the program's text. Texts of at most 1048576 bytes. -/
import Derived.Test.YtabgedmocdjkcaaRef1
import Derived.Test.YtabgedmocdjkcaaMatch2
import Derived.BigQuiet
namespace Go.Proofs.Ytabgedmocdjkcaa
open Go.RowKit

/-- bellmanref01.Texts: the same texts? -/
theorem ref_Texts (L M : List (List UInt8)) (g g' cap cap' : Nat) (w : World) (hL : L.length ≤ 1048576) (hM : M.length ≤ 1048576)
    (hc : ∀ (i : Nat) x, L[i]? = some x → w.cell? ⟨g, i, none⟩ = some (.string ⟨x.toArray⟩)) (hc' : ∀ (i : Nat) x, M[i]? = some x → w.cell? ⟨g', i, none⟩ = some (.string ⟨x.toArray⟩)) :
    Calls Try.prog 12 #[.slice (some ⟨g, 0, none⟩) L.length cap, .slice (some ⟨g', 0, none⟩) M.length cap'] w fun e w' => e = .returned (.bool (L == M)) ∧ ∃ n, w' = w.drewN n := by
  have HC := Lib.hid hc
  have HC' := Lib.hid hc'
  clear hc hc'
  by_cases hlm : L.length = M.length
  · have HLM := Lib.hid hlm
    rw [hlm]
    clear hlm
    go_enter Try.func12, Try.ntmps12
    go_wp2
    go_loopw [5] (fun i wr => ∃ (k n : Nat), k ≤ M.length ∧ i = .int .i64 k ∧ wr = w.drewN n ∧ Hid (L.take k = M.take k)) (fun i _ => M.length - (intOf i).toNat)
    case atStart => exact ⟨0, 0, Nat.zero_le _, rfl, rfl, rfl⟩
    case round =>
      obtain ⟨k, n, hk, rfl, rfl, H⟩ := hrel
      by_cases hlt : k < M.length
      · have hlt' : k < L.length := by rw [HLM.out]; exact hlt
        have hx := HC.out k L[k] (by simp)
        have hy := HC'.out k M[k] (by simp)
        go_wp2
        go_region
        go_wp2
        · go_ret
          rename_i hne
          refine ⟨?_, n + 1, rfl⟩
          have : (L == M) = false := by
            rw [beq_eq_false_iff_ne]; rintro rfl; simp at hne
          rw [this]; rfl
        · rename_i heq
          go_roundw
          case rel =>
            refine ⟨k + 1, n + 1, by omega, by go_num, rfl, ?_⟩
            have e : L[k] = M[k] := by simpa using heq
            show L.take (k + 1) = M.take (k + 1)
            rw [List.take_succ_eq_append_getElem hlt', List.take_succ_eq_append_getElem hlt, H.out, e]
          case measure => simp [intOf]; omega
      · go_wp2
        go_ret
        refine ⟨?_, n, rfl⟩
        have : L = M := by
          have := H.out
          rwa [List.take_of_length_le (by rw [HLM.out]; omega), List.take_of_length_le (by omega)] at this
        rw [this]; simp
  · have H := Lib.hid (show (L == M) = false by rw [beq_eq_false_iff_ne]; rintro rfl; exact hlm rfl)
    have h1 : ((L.length : Int) != (M.length : Int)) = true := by simp; omega
    clear hlm
    go_enter Try.func12, Try.ntmps12
    go_wp2
    go_ret
    exact ⟨by rw [H.out]; rfl, 0, rfl⟩

end Go.Proofs.Ytabgedmocdjkcaa

namespace Go.Proofs.Ytabgedmocdjkcaa
open Go.RowKit

theorem match_false_at {F T : List (List UInt8)} (hF : levelsOk F = true) (hT : ∀ y, y ∈ T → y ≠ [35]) (k : Nat) (x y : List UInt8) (hk : k < aheadL F) (hx : F[k]? = some x) (hy : T[k]? = some y) (h1 : x ≠ [43]) (h2 : x ≠ y) : coversL F T = false := by
  cases e : coversL F T with
  | false => rfl
  | true =>
    rcases ((matches_iff F T hF hT).1 e).2 k hk with h | h
    · rw [hx] at h; injection h with h; exact absurd h h1
    · rw [hx, hy] at h; injection h with h; exact absurd h h2
theorem match_false_len {F T : List (List UInt8)} (hF : levelsOk F = true) (hT : ∀ y, y ∈ T → y ≠ [35]) (h : ¬ (if hashL F then aheadL F ≤ T.length else T.length = aheadL F)) : coversL F T = false := by
  cases e : coversL F T with
  | false => rfl
  | true => exact absurd ((matches_iff F T hF hT).1 e).1 h
/-- Are the first k alike? -/
def alikeTo (F T : List (List UInt8)) (k : Nat) : Prop := ∀ i, i < k → F[i]? = some [43] ∨ F[i]? = T[i]?
theorem alikeTo_step {F T : List (List UInt8)} {k : Nat} (h : alikeTo F T k) (hk : F[k]? = some [43] ∨ F[k]? = T[k]?) : alikeTo F T (k + 1) := fun i hi => by
  by_cases e : i = k
  · subst e; exact hk
  · exact h i (by omega)
theorem alikeTo_zero (F T : List (List UInt8)) : alikeTo F T 0 := fun i h => by omega
theorem match_true {F T : List (List UInt8)} (hF : levelsOk F = true) (hT : ∀ y, y ∈ T → y ≠ [35]) (hl : (if hashL F then aheadL F ≤ T.length else T.length = aheadL F)) (h : alikeTo F T (aheadL F)) : coversL F T = true :=
  (matches_iff F T hF hT).2 ⟨hl, h⟩
theorem last_at {F : List (List UInt8)} {x : List UInt8} (hx : F[F.length - 1]? = some x) : hashL F = (x == [35]) := by
  unfold hashL
  rw [List.getLast?_eq_getElem?, hx]; rfl

theorem apart_at (t : ByteArray) (h : 0 < t.size) : apartZ t.data.toList = ((t[0].toNat : Int) == 36) := by
  have hl := Lib.size_eq t
  unfold apartZ
  have e : t.data.toList.head? = some t[0] := by
    rw [List.head?_eq_getElem?, List.getElem?_eq_getElem (by omega)]; rfl
  rw [e, Bool.eq_iff_iff]
  simp only [beq_iff_eq, Option.some.injEq]
  constructor
  · intro h; rw [h]; rfl
  · intro h; exact UInt8.toNat_inj.1 (by show _ = 36; omega)

end Go.Proofs.Ytabgedmocdjkcaa

namespace Go.Proofs.Ytabgedmocdjkcaa
open Go.RowKit

set_option maxRecDepth 100000 in
set_option maxHeartbeats 2000000 in
theorem ref2_Covers_ok (a b : ByteArray) (w : World) (hfa : filterZ a.data.toList = true) (hfb : filterZ b.data.toList = true) (hw : (wildZ a.data.toList && apartZ b.data.toList) = false) :
    Calls Try.prog 11 #[.string a, .string b] w fun e w' => e = .returned (.bool (coversL (lv a.data.toList) (lv b.data.toList))) ∧ Below w.heap.size w w' := by
  have has := size_of_bytes (filterZ_bytes hfa)
  have hbs := size_of_bytes (filterZ_bytes hfb)
  have hb0 : 0 < b.size := by omega
  have HP := Lib.hid (apart_at b hb0)
  have HA := Lib.hid hfa
  have HB := Lib.hid hfb
  clear hfa hfb
  have h2 : wildZ a.data.toList = false ∨ (wildZ a.data.toList = true ∧ ((b[0].toNat : Int) == 36) = false) := by
    rw [HP.out] at hw
    cases e : wildZ a.data.toList with
    | false => exact .inl rfl
    | true => rw [e, Bool.true_and] at hw; exact .inr ⟨rfl, hw⟩
  clear hw
  rcases h2 with hwf | ⟨hwf, hp36⟩
  all_goals
    have HW := Lib.hid hwf
    clear hwf
    go_enter Try.func11, Try.ntmps11
    go_wp2_with fail
    refine (ref_Filter _ _ (by omega)).mono ?_
    rintro e w1 ⟨rfl, h1⟩
    rw [HA.out]
    go_wp2_with fail
    refine (ref_Filter _ _ (by omega)).mono ?_
    rintro e w2 ⟨rfl, h2⟩
    rw [HB.out]
    go_wp2_with fail
    refine (ref_Wild _ _ (by omega)).mono ?_
    rintro e w3 ⟨rfl, h3⟩
    rw [HW.out]
    go_wp2_with fail
    refine (ref_Levels_cells _ _ (by omega)).mono ?_
    rintro e w4 ⟨g, cap, rfl, hg1, hg2, hc, h4⟩
    go_wp2_with fail
    refine (ref_Levels_cells _ _ (by omega)).mono ?_
    rintro e w5 ⟨g', cap', rfl, hg1', hg2', hc', h5⟩
    have B5 := below_step (below_step (below_step (below_step h1 h2) h3) h4) h5
    obtain ⟨F, HFF⟩ : ∃ F, Hid (lv a.data.toList = F) := ⟨_, rfl⟩
    obtain ⟨G, HGG⟩ : ∃ G, Hid (lv b.data.toList = G) := ⟨_, rfl⟩
    have hF33 : F.length ≤ 33 := by
      rw [← HFF.out, lv_length]; have := List.count_le_length (a := (47 : UInt8)) (l := a.data.toList); rw [← Lib.size_eq] at this; omega
    have hG33 : G.length ≤ 33 := by
      rw [← HGG.out, lv_length]; have := List.count_le_length (a := (47 : UInt8)) (l := b.data.toList); rw [← Lib.size_eq] at this; omega
    rw [HFF.out] at hc ⊢
    rw [HGG.out] at hc' ⊢
    have HC : Hid (∀ (i : Nat) x, F[i]? = some x → w5.cell? ⟨g, i, none⟩ = some (.string ⟨x.toArray⟩)) := fun i x hx => (h5.cell (p := ⟨g, i, none⟩) hg2).trans (hc i x hx)
    have HC' := Lib.hid hc'
    clear hc hc' h1 h2 h3 h4
    have hgw : g < w5.heap.size := Nat.lt_of_lt_of_le hg2 h5.size
    clear h5
    go_wp2
    go_loopw [7] (fun i wr => ∃ k : Nat, k ≤ F.length ∧ k ≤ G.length ∧ i = .int .i64 k ∧ Below w5.heap.size w5 wr ∧ Hid (coversL F G = coversL (F.drop k) (G.drop k))) (fun i _ => F.length - (intOf i).toNat)
    case atStart => exact ⟨0, Nat.zero_le _, Nat.zero_le _, rfl, Below.refl _ _, rfl⟩
    case round =>
      obtain ⟨k, hk, hkg, rfl, hb, H⟩ := hrel
      by_cases hlt : k < F.length
      · obtain ⟨x, HX⟩ : ∃ x, Hid (F[k]? = some x) := ⟨F[k], List.getElem?_eq_getElem (by omega)⟩
        have hcx := (hb.cell (p := ⟨g, k, none⟩) hgw).trans (HC.out k x HX.out)
        have hd : decide ((k : Int) < (F.length : Int)) = true := by simp; omega
        cases hx : (x == [35])
        · have HXN := Lib.hid (show x ≠ [35] by simpa using hx)
          by_cases hkl : k < G.length
          · obtain ⟨y, HY⟩ : ∃ y, Hid (G[k]? = some y) := ⟨G[k], List.getElem?_eq_getElem hkl⟩
            have hcy := (hb.cell (p := ⟨g', k, none⟩) hg2').trans (HC'.out k y HY.out)
            have hge : decide (G.length ≤ k) = false := by simp; omega
            have HAL := Lib.hid (show alikeZ x y = ((x == y) || ((x == [43]) && !(y == [35]))) from rfl)
            have HST := Lib.hid (coversL_step F G k x y HX.out HY.out HXN.out)
            cases h1 : (x == y)
            · cases h2 : (x == [43])
              · rw [h1, h2] at HAL
                go_wp2
                go_quiet (fail)
                go_wp2
                go_ret
                refine ⟨?_, B5.trans ((below_draws hb _).mono B5.size)⟩
                rw [HFF.out, HGG.out, H.out, HST.out, HAL.out]; rfl
              · cases h3 : (y == [35])
                · rw [h1, h2, h3] at HAL
                  go_wp2
                  go_quiet (fail)
                  go_wp2
                  go_roundw
                  case rel => exact ⟨k + 1, by omega, by omega, by go_num, below_draws hb _, by rw [H.out, HST.out, HAL.out]; rfl⟩
                  case measure => simp [intOf]; omega
                · rw [h1, h2, h3] at HAL
                  go_wp2
                  go_quiet (fail)
                  go_wp2
                  go_ret
                  refine ⟨?_, B5.trans ((below_draws hb _).mono B5.size)⟩
                  rw [HFF.out, HGG.out, H.out, HST.out, HAL.out]; rfl
            · obtain rfl : x = y := by simpa using h1
              rw [h1] at HAL
              clear h1
              go_wp2
              go_quiet (fail)
              go_wp2
              go_roundw
              case rel => exact ⟨k + 1, by omega, by omega, by go_num, below_draws hb _, by rw [H.out, HST.out, HAL.out]; rfl⟩
              case measure => simp [intOf]; omega
          · have hge : decide (G.length ≤ k) = true := by simp; omega
            have HSH := Lib.hid (coversL_short F G k x HX.out HXN.out (by omega))
            go_wp2
            go_quiet (fail)
            go_wp2
            go_ret
            refine ⟨?_, B5.trans ((below_draws hb _).mono B5.size)⟩
            rw [HFF.out, HGG.out, H.out, HSH.out]; rfl
        · have HXE := Lib.hid (show x = [35] by simpa using hx)
          go_wp2
          go_ret
          refine ⟨?_, B5.trans (hb.mono B5.size)⟩
          rw [HFF.out, HGG.out, H.out, coversL_at_hash F G k (by rw [HX.out, HXE.out])]; rfl
      · have hd : decide ((k : Int) < (F.length : Int)) = false := by simp; omega
        go_wp2
        go_ret
        refine ⟨?_, B5.trans (hb.mono B5.size)⟩
        have e : ((F.length : Int) == (G.length : Int)) = decide (G.length ≤ k) := by
          rw [Bool.eq_iff_iff, beq_iff_eq, decide_eq_true_iff]
          omega
        rw [HFF.out, HGG.out, H.out, coversL_end F G k (by omega), ← e]; rfl

theorem ref2_Covers_wild (a b : ByteArray) (w : World) (hfa : filterZ a.data.toList = true) (hfb : filterZ b.data.toList = true) (hw : (wildZ a.data.toList && apartZ b.data.toList) = true) :
    Calls Try.prog 11 #[.string a, .string b] w fun e w' => e = .returned (.bool false) ∧ Below w.heap.size w w' := by
  have has := size_of_bytes (filterZ_bytes hfa)
  have hbs := size_of_bytes (filterZ_bytes hfb)
  have hb0 : 0 < b.size := by omega
  rw [Bool.and_eq_true, apart_at b hb0] at hw
  have HA := Lib.hid hfa
  have HB := Lib.hid hfb
  have HW := Lib.hid hw.1
  have hp36 := hw.2
  clear hfa hfb hw
  go_enter Try.func11, Try.ntmps11
  go_wp2_with fail
  refine (ref_Filter _ _ (by omega)).mono ?_
  rintro e w1 ⟨rfl, h1⟩
  rw [HA.out]
  go_wp2_with fail
  refine (ref_Filter _ _ (by omega)).mono ?_
  rintro e w2 ⟨rfl, h2⟩
  rw [HB.out]
  go_wp2_with fail
  refine (ref_Wild _ _ (by omega)).mono ?_
  rintro e w3 ⟨rfl, h3⟩
  rw [HW.out]
  go_wp2
  go_ret
  exact ⟨rfl, below_step (below_step h1 h2) h3⟩

/-- bellmanref02.Covers. -/
theorem ref2_Covers (a b : ByteArray) (w : World) (ha : a.size ≤ 1048576) (hb : b.size ≤ 1048576) :
    Calls Try.prog 11 #[.string a, .string b] w fun e w' => e = .returned (.bool (coversZ a.data.toList b.data.toList)) ∧ Below w.heap.size w w' := by
  cases hfa : filterZ a.data.toList
  · have H := Lib.hid (show coversZ a.data.toList b.data.toList = false by unfold coversZ; rw [hfa]; simp)
    have HA := Lib.hid hfa
    clear hfa
    go_enter Try.func11, Try.ntmps11
    go_wp2_with fail
    refine (ref_Filter _ _ ha).mono ?_
    rintro e w1 ⟨rfl, h1⟩
    rw [HA.out]
    go_wp2
    go_ret
    exact ⟨by rw [H.out]; rfl, h1⟩
  · cases hfb : filterZ b.data.toList
    · have H := Lib.hid (show coversZ a.data.toList b.data.toList = false by unfold coversZ; rw [hfb]; simp)
      have HA := Lib.hid hfa
      have HB := Lib.hid hfb
      clear hfa hfb
      go_enter Try.func11, Try.ntmps11
      go_wp2_with fail
      refine (ref_Filter _ _ ha).mono ?_
      rintro e w1 ⟨rfl, h1⟩
      rw [HA.out]
      go_wp2_with fail
      refine (ref_Filter _ _ hb).mono ?_
      rintro e w2 ⟨rfl, h2⟩
      rw [HB.out]
      go_wp2
      go_ret
      exact ⟨by rw [H.out]; rfl, below_step h1 h2⟩
    · cases hw : (wildZ a.data.toList && apartZ b.data.toList)
      · refine (ref2_Covers_ok a b w hfa hfb hw).mono ?_
        rintro e w1 ⟨rfl, h1⟩
        refine ⟨?_, h1⟩
        unfold coversZ; rw [hfa, hfb, hw]; simp
      · refine (ref2_Covers_wild a b w hfa hfb hw).mono ?_
        rintro e w1 ⟨rfl, h1⟩
        refine ⟨?_, h1⟩
        unfold coversZ; rw [hw]; simp

end Go.Proofs.Ytabgedmocdjkcaa
