/- Layer 14, the law: WalkPairs. -/
import Derived.Test.YtabgedmocdjkcaaJoin46
namespace Go.Proofs.Ytabgedmocdjkcaa
open Go.RowKit Go.Shelf

theorem own_below {w w' : World} {base n size : Nat} {e : TypeId} {v : Value} {xs : List Value} (h : w.ownsRow base e size v n xs) (hb : Below w.heap.size w w') : w'.ownsRow base e size v n xs := own_only h (Only.of_below hb (fun _ => False)) fun _ _ e => e
theorem own_nums {w : World} {base n : Nat} {v : Value} {l : List Int} (h : w.ownsRow base 3 1 v n (l.map numV)) : NumsIn w v l := by
  have h1 := SliceK.of_own h
  have h2 : n = l.length := by have := h.1; simpa using this.symm
  subst h2
  exact h1
theorem texts_same {base base' n n' : Nat} {v u : Value} {l : List Key} {w : World} (hv : w.ownsRow base 9 1 v n (l.map keyV)) (hu : w.ownsRow base' 9 1 u n' (l.map keyV)) (hl : l.length ≤ 1000000) :
    Calls Try.prog 12 #[v, u] w fun e w' => e = .returned (.bool true) ∧ Below w.heap.size w w' := by
  have h1 : n = l.length := by have := hv.1; simpa using this.symm
  have h2 : n' = l.length := by have := hu.1; simpa using this.symm
  subst h1
  subst h2
  have h := ref_TextsO hv hu hl hl
  rw [show (l == l) = true by simp] at h
  exact h
theorem ints_same {base base' n n' : Nat} {v u : Value} {l : List Int} {w : World} (hv : w.ownsRow base 3 1 v n (l.map numV)) (hu : w.ownsRow base' 3 1 u n' (l.map numV)) (hl : l.length ≤ 1000000) :
    Calls Try.prog 13 #[v, u] w fun e w' => e = .returned (.bool true) ∧ Below w.heap.size w w' := by
  have h := ref_Ints v u l l w (own_nums hv) (own_nums hu) hl hl
  rw [show decide (l = l) = true by simp] at h
  exact h
theorem unZ_len (f : Key) (l : List Pr) : (unZ f l).length ≤ l.length := List.length_filter_le _ _
set_option maxRecDepth 100000 in
set_option maxHeartbeats 4000000 in
theorem pairs14 {a1 a2 : Option Addr} {T : List Key} {N : List Int} {c1 c2 : Nat} (sub : Int) (f : ByteArray) (W : World) (hT : TextsIn W a1 T) (hmx : T.length ≤ 9223372036854775807) (hN : ListIn numV W a2 N) :
    Calls Try.prog 3 #[.slice a1 T.length c1, .slice a2 N.length c2, .int .i64 sub, .string f] W fun e w' => e = .returned (.bool true) ∧ Below W.heap.size W w' := by
  have HA := Lib.hid (awake14 W)
  go_enter Try.func3, Try.ntmps3
  go_wp2_with fail
  refine HA.out.mono ?_
  rintro e W2 ⟨rfl, hB2⟩
  have HG := Lib.hid (great14 a1 c1 T W2 (hT.below hB2) hmx)
  have HB2 := Lib.hid hB2
  have HT := Lib.hid (hT.below hB2)
  have HN := Lib.hid (hN.below hB2)
  clear hT hN hB2 HA
  go_wp2_with fail
  refine HG.out.mono ?_
  rintro e W3 ⟨rfl, rfl⟩
  cases hgr : greatZ T
  case true =>
    clear hgr
    go_wp2_with fail
    go_ret
    exact ⟨rfl, HB2.out⟩
  case false =>
    obtain ⟨hT1, hT2⟩ := great_no hgr
    have HT2 := Lib.hid hT2
    clear hgr hT2 HG
    go_wp2_with fail
    refine (ref_Long14 f W2).mono ?_
    rintro e W3 ⟨rfl, rfl⟩
    by_cases hfl : 300 < f.size
    · rw [decide_eq_true hfl]
      clear hfl
      go_wp2_with fail
      go_ret
      exact ⟨rfl, HB2.out⟩
    · rw [decide_eq_false hfl]
      obtain ⟨P, hP⟩ : ∃ P, P = T.zip N := ⟨_, rfl⟩
      have hof := law_of (c1 := c1) (c2 := c2) HT.out HN.out (by omega) HT2.out
      rw [← hP] at hof
      have HOF := Lib.hid hof
      clear hof
      go_wp2_with fail
      refine HOF.out.mono ?_
      rintro e W3 ⟨o, rfl, hwt, hnd, hB3⟩
      have hPl : P.length ≤ 100 := by rw [hP, List.length_zip]; omega
      have hPx : ∀ x ∈ P, x.1.length ≤ 100 := fun x hx => by
        rw [hP] at hx
        exact HT2.out _ (List.of_mem_zip hx).1
      have HTL := Lib.hid (tells_of hwt hnd (by omega) hPx)
      obtain ⟨L, hL⟩ : ∃ L, L = refZ P := ⟨_, rfl⟩
      have HPR : Hid (prs o = L) := Lib.hid (by rw [hL]; exact prs_ref hwt)
      have hLl : L.length ≤ 100 := by rw [hL]; exact Nat.le_trans (refZ_len P) hPl
      have HLX : Hid (∀ x ∈ L, x.1.length ≤ 100) := Lib.hid (by rw [hL]; exact refZ_texts hPx)
      have hrp := ref_Pairs (c1 := c1) (c2 := c2) (HT.out.below hB3) (HN.out.below hB3) (by omega) HT2.out
      rw [← hP, ← hL] at hrp
      have HRP := Lib.hid hrp
      have HB3 := Lib.hid (below_step HB2.out hB3)
      obtain ⟨q, hq⟩ := nd_form o
      rw [hq]
      have HQ := Lib.hid hq
      clear hq hwt hnd hPx hL hrp hB3 hP hPl HOF
      go_wp2_with fail
      refine HRP.out.mono ?_
      rintro e W4 ⟨v, u, rfl, hrv, hru, hB4⟩
      obtain ⟨av, cv, rfl⟩ := own_form hrv
      obtain ⟨au, cu, rfl⟩ := own_form hru
      have HRV := Lib.hid hrv
      have HRU := Lib.hid hru
      have HTL4 := Lib.hid (HTL.out.below hB4 hB4.size)
      have HB4 := Lib.hid (below_step HB3.out hB4)
      have hpp := law_pairs_false HTL4.out ⟨#[]⟩ (by rw [HPR.out]; omega)
      rw [HPR.out, HQ.out] at hpp
      have HPP := Lib.hid hpp
      have z34 := hB4.size
      clear hpp hrv hru hB4 HRP HTL
      go_wp2_with fail
      refine HPP.out.mono ?_
      rintro e W5 ⟨va, ua, rfl, hva, hua, hB5⟩
      have HVA := Lib.hid hva
      have HUA := Lib.hid hua
      have z45 := hB5.size
      have HTL5 := Lib.hid (HTL4.out.below (hB5.mono z34) z45)
      have H45 := Lib.hid hB5
      have hun := unZ_len f.data.toList L
      have hpp := law_pairs_true HTL5.out f (by rw [HPR.out]; omega)
      rw [HPR.out, HQ.out] at hpp
      have HPP2 := Lib.hid hpp
      clear hpp hva hua hB5 HPP HTL4
      go_wp2_with fail
      refine HPP2.out.mono ?_
      rintro e W6 ⟨vc, uc, rfl, hvc, huc, hB6⟩
      have HVC := Lib.hid hvc
      have HUC := Lib.hid huc
      have H46 := Lib.hid (below_step H45.out hB6)
      have H56 := Lib.hid hB6
      have z56 := hB6.size
      have HTL6 := Lib.hid (HTL5.out.below (hB6.mono (Nat.le_trans z34 z45)) z56)
      have HB6 := Lib.hid (below_step HB4.out H46.out)
      have HCL : Hid (∀ wx, Below W6.heap.size W6 wx → ∀ (j : Nat) x, L[j]? = some x → ∃ g g', av = some ⟨g, 0, none⟩ ∧ au = some ⟨g', 0, none⟩ ∧ wx.cell? ⟨g, j, none⟩ = some (.string ⟨x.1.toArray⟩) ∧ wx.cell? ⟨g', j, none⟩ = some (.int .i64 x.2)) := Lib.hid fun wx hb j x hx => by
        have hjl : 0 < L.length := by have := (List.getElem?_eq_some_iff.1 hx).1; omega
        have hbb := below_step H46.out hb
        obtain ⟨g, cq, ev, _, _, _, h1⟩ := own_cellN hjl (own_only HRV.out (Only.of_below hbb (fun _ => False)) fun _ _ e => e)
        obtain ⟨g', cq', eu, _, _, _, h2⟩ := own_cellN hjl (own_only HRU.out (Only.of_below hbb (fun _ => False)) fun _ _ e => e)
        injection ev with ev _ _
        injection eu with eu _ _
        exact ⟨g, g', ev, eu, h1 j _ (by rw [List.getElem?_map, List.getElem?_map, hx]; rfl), h2 j _ (by rw [List.getElem?_map, List.getElem?_map, hx]; rfl)⟩
      clear hvc huc hB6 HPP2 HTL5
      go_wp2_with fail
      go_loopw [18, 19, 20, 21] (fun v m u i wr => ∃ k : Nat, k ≤ L.length ∧ i = .int .i64 (k : Int) ∧ Hid (Fl ((unZ f.data.toList (L.take k)).map Prod.fst) ((unZ f.data.toList (L.take k)).map Prod.snd) (fiZ sub (L.take k)) v u m W6 wr)) (fun _ _ _ i _ => L.length - (intOf i).toNat)
      case atStart => exact ⟨0, Nat.zero_le _, rfl, Lib.hid (fl_nil W6)⟩
      case round =>
        obtain ⟨k, hk, rfl, ST⟩ := hrel
        by_cases hkl : k < L.length
        · obtain ⟨x, hx⟩ : ∃ x, L[k]? = some x := ⟨_, List.getElem?_eq_getElem hkl⟩
          have hxl := HLX.out x (List.mem_of_getElem? hx)
          have hcov := fun w => ref2_Covers f ⟨x.1.toArray⟩ w (by omega) (by show x.1.toArray.size ≤ _; simp; omega)
          obtain ⟨t, i⟩ := x
          have hTK : L.take (k + 1) = L.take k ++ [(t, i)] := by
            obtain ⟨h1, h2⟩ := List.getElem?_eq_some_iff.1 hx
            rw [List.take_succ_eq_append_getElem h1, h2]
          have hkI : (k : Int) < (L.length : Int) := by omega
          have hUl : ((unZ f.data.toList (L.take k)).map Prod.fst).length ≤ 1000 := by
            have h1 := unZ_len f.data.toList (L.take k)
            rw [List.length_take] at h1
            rw [List.length_map]; omega
          have hVl : ((unZ f.data.toList (L.take k)).map Prod.snd).length ≤ 1000 := by
            rw [List.length_map] at hUl ⊢; exact hUl
          have hMl : (fiZ sub (L.take k)).length ≤ 1000 := by
            have h1 := fiZ_len sub (L.take k)
            rw [List.length_take] at h1; omega
          have hu9 := unZ_snoc f.data.toList (L.take k) (t, i)
          have hf9 := fiZ_snoc sub (L.take k) (t, i)
          rw [← hTK] at hu9 hf9
          have HU9 := Lib.hid hu9
          have HF9 := Lib.hid hf9
          dsimp only at hcov
          have HCV := Lib.hid hcov
          have hcl0 := HCL.out wr ST.out.bl k _ hx
          obtain ⟨g, g', rfl, rfl, d1, d2⟩ := hcl0
          have HCK : Hid (∀ wx, Below W6.heap.size W6 wx → wx.cell? ⟨g, k, none⟩ = some (.string ⟨t.toArray⟩) ∧ wx.cell? ⟨g', k, none⟩ = some (.int .i64 i)) := Lib.hid fun wx hb => by
            obtain ⟨h, h', e1, e2, e3, e4⟩ := HCL.out wx hb k _ hx
            injection e1 with e1
            injection e1 with e1 _ _
            injection e2 with e2
            injection e2 with e2 _ _
            subst e1 e2
            exact ⟨e3, e4⟩
          clear hcov hu9 hf9 hTK hx
          go_wp2_with fail
          refine (HCV.out _).mono ?_
          rintro e w5 ⟨rfl, hB5⟩
          have S5 := ST.out.below hB5
          clear d1 d2 hB5 ST
          cases hcz : coversZ f.data.toList t
          case false =>
            have hUU : unZ f.data.toList (L.take (k + 1)) = unZ f.data.toList (L.take k) := by rw [HU9.out, hcz]; rfl
            obtain ⟨d1, d2⟩ := HCK.out w5 S5.bl
            by_cases his : i = sub
            · have hFF : fiZ sub (L.take (k + 1)) = fiZ sub (L.take k) ++ [t] := by rw [HF9.out, if_pos his]
              obtain ⟨m8, w8, hr8, S8⟩ := S5.addM t hMl
              rw [← hUU, ← hFF] at S8
              have HR8 := Lib.hid hr8
              have HS8 := Lib.hid S8
              have hib : (i == sub) = true := by simpa using his
              clear hr8 S8 his hcz hUU hFF S5
              go_wp2_with (at_builtin; refine wpList_append_run rfl _ _ 22 rfl _ _ _ _ rfl rfl HR8.out ?_)
              go_roundw
              case rel => exact ⟨k + 1, by omega, by go_num, HS8⟩
              case measure => simp [intOf]; omega
            · have hFF : fiZ sub (L.take (k + 1)) = fiZ sub (L.take k) := by rw [HF9.out, if_neg his]
              rw [← hUU, ← hFF] at S5
              have HS8 := Lib.hid S5
              have hib : (i == sub) = false := by simpa using his
              clear his hcz hUU hFF S5
              go_wp2_with fail
              go_roundw
              case rel => exact ⟨k + 1, by omega, by go_num, HS8⟩
              case measure => simp [intOf]; omega
          case true =>
            have hUU : unZ f.data.toList (L.take (k + 1)) = unZ f.data.toList (L.take k) ++ [(t, i)] := by rw [HU9.out, hcz]; rfl
            have hU1 : (unZ f.data.toList (L.take (k + 1))).map Prod.fst = (unZ f.data.toList (L.take k)).map Prod.fst ++ [t] := by rw [hUU]; simp
            have hU2 : (unZ f.data.toList (L.take (k + 1))).map Prod.snd = (unZ f.data.toList (L.take k)).map Prod.snd ++ [i] := by rw [hUU]; simp
            obtain ⟨v6, w6, hr6, S6⟩ := S5.addV t hUl
            obtain ⟨u7, w7, hr7, S7⟩ := S6.addU i hVl
            obtain ⟨d1, d2⟩ := HCK.out w5 S5.bl
            obtain ⟨d3, d4⟩ := HCK.out w6 S6.bl
            obtain ⟨d5, d6⟩ := HCK.out w7 S7.bl
            have HR6 := Lib.hid hr6
            have HR7 := Lib.hid hr7
            by_cases his : i = sub
            · have hFF : fiZ sub (L.take (k + 1)) = fiZ sub (L.take k) ++ [t] := by rw [HF9.out, if_pos his]
              obtain ⟨m8, w8, hr8, S8⟩ := S7.addM t hMl
              rw [← hU1, ← hU2, ← hFF] at S8
              have HR8 := Lib.hid hr8
              have HS8 := Lib.hid S8
              have hib : (i == sub) = true := by simpa using his
              clear hr6 hr7 hr8 S8 his hcz hUU hU1 hU2 hFF S5 S6 S7
              go_wp2_with (at_builtin; first
                | refine wpList_append_run rfl _ _ 22 rfl _ _ _ _ rfl rfl HR6.out ?_
                | refine wpList_append_run rfl _ _ 23 rfl _ _ _ _ rfl rfl HR7.out ?_
                | refine wpList_append_run rfl _ _ 22 rfl _ _ _ _ rfl rfl HR8.out ?_)
              go_roundw
              case rel => exact ⟨k + 1, by omega, by go_num, HS8⟩
              case measure => simp [intOf]; omega
            · have hFF : fiZ sub (L.take (k + 1)) = fiZ sub (L.take k) := by rw [HF9.out, if_neg his]
              rw [← hU1, ← hU2, ← hFF] at S7
              have HS8 := Lib.hid S7
              have hib : (i == sub) = false := by simpa using his
              clear hr6 hr7 his hcz hUU hU1 hU2 hFF S5 S6 S7
              go_wp2_with (at_builtin; first
                | refine wpList_append_run rfl _ _ 22 rfl _ _ _ _ rfl rfl HR6.out ?_
                | refine wpList_append_run rfl _ _ 23 rfl _ _ _ _ rfl rfl HR7.out ?_)
              go_roundw
              case rel => exact ⟨k + 1, by omega, by go_num, HS8⟩
              case measure => simp [intOf]; omega
        · obtain rfl : k = L.length := by omega
          have hst := ST.out
          rw [List.take_length] at hst
          have S := Lib.hid hst
          have hlf : (L.map Prod.fst).length ≤ 1000000 := by rw [List.length_map]; omega
          have hls : (L.map Prod.snd).length ≤ 1000000 := by rw [List.length_map]; omega
          have hlg : ((unZ f.data.toList L).map Prod.fst).length ≤ 1000000 := by rw [List.length_map]; omega
          have hlh : ((unZ f.data.toList L).map Prod.snd).length ≤ 1000000 := by rw [List.length_map]; omega
          have hli : (fiZ sub L).length ≤ 1000000 := by have := fiZ_len sub L; omega
          have H6 := Lib.hid S.out.bl
          have H5 := Lib.hid (below_step H56.out H6.out)
          have H4 := Lib.hid (below_step H46.out H6.out)
          have HB := Lib.hid (below_step HB6.out H6.out)
          have T1 := Lib.hid (texts_same (own_below HVA.out H5.out) (own_below HRV.out H4.out) hlf)
          clear hst ST hkl HB6 hlf
          go_wp2_with fail
          refine T1.out.mono ?_
          rintro e Y1 ⟨rfl, hY1⟩
          have K1 := Lib.hid hY1
          have T2 := Lib.hid (ints_same (own_below (own_below HUA.out H5.out) hY1) (own_below (own_below HRU.out H4.out) hY1) hls)
          clear hY1 T1 hls
          go_wp2_with fail
          refine T2.out.mono ?_
          rintro e Y2 ⟨rfl, hY2⟩
          have K2 := Lib.hid (below_step K1.out hY2)
          have T3 := Lib.hid (texts_same (own_below (own_below HVC.out H6.out) K2.out) (own_below S.out.rv K2.out) hlg)
          clear hY2 T2 hlg K1
          go_wp2_with fail
          refine T3.out.mono ?_
          rintro e Y3 ⟨rfl, hY3⟩
          have K3 := Lib.hid (below_step K2.out hY3)
          have T4 := Lib.hid (ints_same (own_below (own_below HUC.out H6.out) K3.out) (own_below S.out.ru K3.out) hlh)
          clear hY3 T3 hlh K2
          go_wp2_with fail
          refine T4.out.mono ?_
          rintro e Y4 ⟨rfl, hY4⟩
          have K4 := Lib.hid (below_step K3.out hY4)
          have zr := H6.out.size
          have z4 := K4.out.size
          have hfi := walk_Filters (HTL6.out.below ((below_step H6.out K4.out).mono (Nat.le_trans (Nat.le_trans z34 z45) z56)) (Nat.le_trans zr z4)) sub
          rw [HPR.out, HQ.out] at hfi
          have T5 := Lib.hid hfi
          clear hY4 T4 hfi K3
          go_wp2_with fail
          refine T5.out.mono ?_
          rintro e Y5 ⟨vf, rfl, hvf, hY5⟩
          have K5 := Lib.hid (below_step K4.out hY5)
          have T6 := Lib.hid (texts_same hvf (own_below S.out.rm K5.out) hli)
          clear hY5 T5 hvf hli K4
          go_wp2_with fail
          refine T6.out.mono ?_
          rintro e Y6 ⟨rfl, hY6⟩
          have K6 := Lib.hid (below_step HB.out (below_step K5.out hY6))
          clear hY6 T6 K5
          go_wp2_with fail
          go_ret
          exact ⟨rfl, K6.out⟩
end Go.Proofs.Ytabgedmocdjkcaa
