/- TrieBack's walk. Made by tools/gen_law13.py. -/
import Derived.Test.YtmfejpbijllojaaLawT13
import Derived.Test.YtmfejpbijllojaaRef1
import Derived.Deep.CutBlock
import Derived.Deep.RegionHeld3
namespace Go.Proofs.Ytmfejpbijllojaa
open Go.RowKit Go.Shelf

set_option maxRecDepth 100000 in
set_option maxHeartbeats 8000000 in
theorem back13 (a : Option Addr) (cap : Nat) (D : List Td) (f : ByteArray) (s : Int) (t : ByteArray) (w : World) (ht : DIn w a D) :
    Calls Try.prog 4 #[.slice a D.length cap, .string f, .int .i64 s, .string t] w fun e w' => e = .returned (.bool true) ∧ Below w.heap.size w w' := by
  have HT := Lib.hid ht
  clear ht
  obtain ⟨big, hbig⟩ : ∃ b : Bool, greatZ D = b := ⟨_, rfl⟩
  have HG := Lib.hid hbig
  go_enter Try.func4, Try.ntmps4
  go_wp2_with fail
  refine (awake13 w).mono ?_
  rintro e w1 ⟨rfl, hb⟩
  have B1 := Lib.hid hb
  have T1 := Lib.hid (HT.out.below hb)
  clear hb HT
  go_wp2_with fail
  refine (great13 a cap D w1 T1.out).mono ?_
  rintro e w' ⟨rfl, rfl⟩
  rw [HG.out]
  cases big with
  | true =>
    go_wp2
    go_ret
    exact ⟨rfl, B1.out⟩
  | false =>
    obtain ⟨hD100, hf100⟩ := small_of hbig
    have HF := Lib.hid hf100
    clear hbig hf100 HG
    by_cases hD : 60 < D.length
    · have hd : decide ((60 : Int) < (D.length : Int)) = true := by simp; omega
      have hd2 : (60 : Int) < (D.length : Int) := by omega
      go_wp2
      go_ret
      exact ⟨rfl, B1.out⟩
    by_cases hfz : 100 < f.size
    · have hd : ¬ (60 : Int) < (D.length : Int) := by omega
      have hd2 : (100 : Int) < (f.size : Int) := by omega
      go_wp2
      go_ret
      exact ⟨rfl, B1.out⟩
    have hd : ¬ (60 : Int) < (D.length : Int) := by omega
    have hd2 : ¬ (100 : Int) < (f.size : Int) := by omega
    by_cases htz : 300 < t.size
    · go_wp2_with fail
      refine (ref_Long_yes t w1 htz).mono ?_
      rintro e w' ⟨rfl, rfl⟩
      go_wp2
      go_ret
      exact ⟨rfl, B1.out⟩
    go_wp2_with fail
    refine (ref_Long_no t w1 (by omega)).mono ?_
    rintro e w' ⟨rfl, rfl⟩
    go_wp2_with fail
    have S3 : Hid (CSt w1 (w1.alloc (.cells #[.pointer none, .int .i64 0] 27)) w1.heap.size 0 none 0 none []) := Lib.hid ⟨bxAt_new (n := 0) ndAt_nil, new_below _ _, Nat.le_refl _, by simp⟩
    obtain ⟨T, hT⟩ : ∃ T, w1.heap.size = T := ⟨_, rfl⟩
    generalize w1.alloc (.cells #[.pointer none, .int .i64 0] 27) = w3 at S3 ⊢
    rw [hT] at S3 ⊢
    clear hT hd hd2
    go_loopg [10] D.length (fun g i wr => ∃ (k : Nat) (q : Option Addr) (n : Nat) (o : Nd) (P : List Pr), k + g = D.length ∧ i = .int .i64 k ∧ Hid (CSt w1 wr T k q n o P))
    case atStart => exact ⟨0, _, _, _, _, by omega, rfl, S3⟩
    case round =>
      obtain ⟨k, q, n, o, P, hk, rfl, ST⟩ := hrel
      have hkL : k ≤ D.length := by omega
      clear S3
      have hP : P.length ≤ 110 := by have := ST.out.len; omega
      by_cases hlt : k < D.length
      · obtain ⟨b, off, rfl, hb, hx⟩ := T1.out.2.at k hlt
        have hfs : D[k].f.size ≤ 100 := HF.out _ (List.getElem_mem hlt)
        have hP2 : P.length + 1 ≤ k + 1 := by have := ST.out.len; omega
        generalize D[k] = p at hx hfs
        obtain ⟨dr, df, ds⟩ := p
        have HX : Hid (∀ W, Below w1.heap.size w1 W → W.cell? ⟨b, off + k * 3 + 1, none⟩ = some (.string df) ∧ W.cell? ⟨b, off + k * 3 + 2, none⟩ = some (.int .i64 ds)) := Lib.hid fun W hW =>
          ⟨(hW.cell (p := ⟨b, off + k * 3 + 1, none⟩) hb).trans (hx 1 _ rfl), (hW.cell (p := ⟨b, off + k * 3 + 2, none⟩) hb).trans (hx 2 _ rfl)⟩
        have hlt2 : (k : Int) < (D.length : Int) := by omega
        have hbw : b < w1.heap.size := hb
        clear hx hb
        dsimp only at *
        go_upto_region 9 with fail
        have hst : CSt w1 wr.drew T k q n o P := ST.out.below (Below.refl _ _).drew
        clear ST
        refine wp_region_noPanic ?_
        refine wp_region_held_drew (S := (fun w' => w'.cell? ⟨b, off + k * 3 + 1, none⟩ = some (.string df) ∧ w'.cell? ⟨b, off + k * 3 + 2, none⟩ = some (.int .i64 ds))) (by kernel_rfl) ?_ (fun hHeld => ?_)
        · exact HX.out _ hst.low
        refine wpAnyH_take (i := 1) (oi := ⟨some 41, _, _, _, _, _⟩) (v := ?_) rfl (by kernel_rfl) (by kernel_rfl) (by kernel_rfl) (fun _ _ _ h => h) (Or.inl ⟨by rfl, ?_⟩) (by assumption) ?_
        rotate_left
        · (intro w hSw; (try dsimp only at hSw); go_simp; try with_reducible rfl)
        try simp only [Act.put, List.setIfInBounds_toArray, List.set_cons_zero, List.set_cons_succ]
        refine wpAnyH_take (i := 2) (oi := ⟨some 42, _, _, _, _, _⟩) (v := ?_) rfl (by kernel_rfl) (by kernel_rfl) (by kernel_rfl) (fun _ _ _ h => h) (Or.inl ⟨by rfl, ?_⟩) (by assumption) ?_
        rotate_left
        · (intro w hSw; (try dsimp only at hSw); go_simp; try with_reducible rfl)
        try simp only [Act.put, List.setIfInBounds_toArray, List.set_cons_zero, List.set_cons_succ]
        refine wpAnyH_take (i := 3) (oi := ⟨some 43, _, _, _, _, _⟩) (v := ?_) rfl (by kernel_rfl) (by kernel_rfl) (by kernel_rfl) (fun _ _ _ h => h) (Or.inl ⟨by rfl, ?_⟩) (by assumption) ?_
        rotate_left
        · (intro w hSw; (try dsimp only at hSw); go_simp; try with_reducible rfl)
        try simp only [Act.put, List.setIfInBounds_toArray, List.set_cons_zero, List.set_cons_succ]
        refine wpAnyH_take (i := 4) (oi := ⟨some 44, _, _, _, _, _⟩) (v := ?_) rfl (by kernel_rfl) (by kernel_rfl) (by kernel_rfl) (fun _ _ _ h => h) (Or.inl ⟨by rfl, ?_⟩) (by assumption) ?_
        rotate_left
        · (intro w hSw; (try dsimp only at hSw); go_simp; try with_reducible rfl)
        try simp only [Act.put, List.setIfInBounds_toArray, List.set_cons_zero, List.set_cons_succ]
        refine wpAnyH_take (i := 5) (oi := ⟨some 45, _, _, _, _, _⟩) (v := ?_) rfl (by kernel_rfl) (by kernel_rfl) (by kernel_rfl) (fun _ _ _ h => h) (Or.inl ⟨by rfl, ?_⟩) (by assumption) ?_
        rotate_left
        · (intro w hSw; (try dsimp only at hSw); go_simp; try with_reducible rfl)
        try simp only [Act.put, List.setIfInBounds_toArray, List.set_cons_zero, List.set_cons_succ]
        refine wpAnyH_take (i := 6) (oi := ⟨some 46, _, _, _, _, _⟩) (v := ?_) rfl (by kernel_rfl) (by kernel_rfl) (by kernel_rfl) (fun _ _ _ h => h) (Or.inl ⟨by rfl, ?_⟩) (by assumption) ?_
        rotate_left
        · (intro w hSw; (try dsimp only at hSw); go_simp; try with_reducible rfl)
        try simp only [Act.put, List.setIfInBounds_toArray, List.set_cons_zero, List.set_cons_succ]
        refine wpAnyH_take (i := 7) (oi := ⟨some 47, _, _, _, _, _⟩) (v := ?_) rfl (by kernel_rfl) (by kernel_rfl) (by kernel_rfl) (fun _ _ _ h => h) (Or.inl ⟨by rfl, ?_⟩) (by assumption) ?_
        rotate_left
        · (intro w hSw; (try dsimp only at hSw); go_simp; try with_reducible rfl)
        try simp only [Act.put, List.setIfInBounds_toArray, List.set_cons_zero, List.set_cons_succ]
        refine wpAnyH_take (i := 8) (oi := ⟨some 48, _, _, _, _, _⟩) (v := ?_) rfl (by kernel_rfl) (by kernel_rfl) (by kernel_rfl) (fun _ _ _ h => h) (Or.inl ⟨by rfl, ?_⟩) (by assumption) ?_
        rotate_left
        · (intro w hSw; (try dsimp only at hSw); go_simp; try with_reducible rfl)
        try simp only [Act.put, List.setIfInBounds_toArray, List.set_cons_zero, List.set_cons_succ]
        refine wpAnyH_take (i := 9) (oi := ⟨some 49, _, _, _, _, _⟩) (v := ?_) rfl (by kernel_rfl) (by kernel_rfl) (by kernel_rfl) (fun _ _ _ h => h) (Or.inl ⟨by rfl, ?_⟩) (by assumption) ?_
        rotate_left
        · (intro w hSw; (try dsimp only at hSw); go_simp; try with_reducible rfl)
        try simp only [Act.put, List.setIfInBounds_toArray, List.set_cons_zero, List.set_cons_succ]
        refine wpAnyH_take (i := 10) (oi := ⟨some 50, _, _, _, _, _⟩) (v := ?_) rfl (by kernel_rfl) (by kernel_rfl) (by kernel_rfl) (fun _ _ _ h => h) (Or.inl ⟨by rfl, ?_⟩) (by assumption) ?_
        rotate_left
        · (intro w hSw; (try dsimp only at hSw); go_simp; try with_reducible rfl)
        try simp only [Act.put, List.setIfInBounds_toArray, List.set_cons_zero, List.set_cons_succ]
        refine wpAnyH_ready (rs := [0]) (by kernel_rfl) (by simp) ?_
        refine AllReadyH.cons (o := ⟨some 40, _, _, _, _, _⟩) rfl (fun K hK => ?_) AllReadyH.nil
        have cX := hst.bx.box.at (o := 0) rfl
        have cY := hst.bx.box.at (o := 1) rfl
        go_simp
        clear cX cY
        refine hK.out _ _ ?_ (fun hHeldX => ?_)
        · exact HX.out _ hst.low
        clear hK K hHeld
        rename _ => hHeld
        try simp only [Act.put, List.setIfInBounds_toArray, List.set_cons_zero, List.set_cons_succ]
        refine wpAnyH_ready (rs := [11]) (by kernel_rfl) (by simp) ?_
        refine AllReadyH.cons (o := ⟨some 51, _, _, _, _, _⟩) rfl (fun K hK => ?_) AllReadyH.nil
        go_simp
        refine (hst.bx.at_.add hst.fresh hP df ds).mono ?_
        rintro e wx ⟨q', n', o', rfl, hnd, hcp, hBx⟩
        replace hst := hst.below hBx
        have HND := Lib.hid hnd
        have HCP := Lib.hid hcp
        clear hnd hcp
        go_wp2_with fail
        refine hK.out _ _ ?_ (fun hHeldX => ?_)
        · exact HX.out _ hst.low
        clear hK K hHeld
        rename _ => hHeld
        try simp only [Act.put, List.setIfInBounds_toArray, List.set_cons_zero, List.set_cons_succ]
        refine wpAnyH_take (i := 12) (oi := ⟨some 39, _, _, _, _, _⟩) (v := ?_) rfl (by kernel_rfl) (by kernel_rfl) (by kernel_rfl) (fun _ _ _ h => h) (Or.inl ⟨by rfl, ?_⟩) (by assumption) ?_
        rotate_left
        · (intro w hSw; (try dsimp only at hSw); go_simp; try with_reducible rfl)
        try simp only [Act.put, List.setIfInBounds_toArray, List.set_cons_zero, List.set_cons_succ]
        refine wpAnyH_take (i := 13) (oi := ⟨some 52, _, _, _, _, _⟩) (v := ?_) rfl (by kernel_rfl) (by kernel_rfl) (by kernel_rfl) (fun _ _ _ h => h) (Or.inl ⟨by rfl, ?_⟩) (by assumption) ?_
        rotate_left
        · (intro w hSw; (try dsimp only at hSw); go_simp; try with_reducible rfl)
        try simp only [Act.put, List.setIfInBounds_toArray, List.set_cons_zero, List.set_cons_succ]
        refine wpAnyH_take (i := 14) (oi := ⟨some 53, _, _, _, _, _⟩) (v := ?_) rfl (by kernel_rfl) (by kernel_rfl) (by kernel_rfl) (fun _ _ _ h => h) (Or.inl ⟨by rfl, ?_⟩) (by assumption) ?_
        rotate_left
        · (intro w hSw; (try dsimp only at hSw); go_simp; try with_reducible rfl)
        try simp only [Act.put, List.setIfInBounds_toArray, List.set_cons_zero, List.set_cons_succ]
        refine wpAnyH_ready (rs := [15]) (by kernel_rfl) (by simp) ?_
        refine AllReadyH.cons (o := ⟨none, _, _, _, _, _⟩) rfl (fun K hK => ?_) AllReadyH.nil
        have cX := hst.bx.box.at (o := 0) rfl
        have cY := hst.bx.box.at (o := 1) rfl
        have fX := hst.bx.box.frozen 0
        have fY := hst.bx.box.frozen 1
        go_simp
        clear cX cY fX fY
        refine hK.out _ _ ?_ (fun hHeldX => ?_)
        · exact HX.out _ ((hst.low.setCell (p := ⟨T, 0, none⟩) hst.lt _).setCell (p := ⟨T, 1, none⟩) hst.lt _)
        clear hK K hHeld
        rename _ => hHeld
        try simp only [Act.put, List.setIfInBounds_toArray, List.set_cons_zero, List.set_cons_succ]
        refine wpAnyH_done (by kernel_rfl) ?_ _
        refine NoPanic.normal ?_
        have hE := hst.put (k := k) HND.out (Nat.le_trans (addZ_len _ _ _) hP2)
        clear hst hHeld HND HCP
        have HE := Lib.hid hE
        clear hE
        generalize hPP : addZ P df.data.toList ds = P' at *
        generalize (World.setCell (World.setCell _ _ _) _ _) = W5 at *
        clear hPP
        go_wp2_with fail
        go_roundg (gk - 1)
        case measure => omega
        case rel => exact ⟨k + 1, _, _, _, _, by omega, by go_num, HE⟩
      · obtain rfl : k = D.length := by omega
        have hge : ¬ ((D.length : Int) < (D.length : Int)) := by omega
        have hfs : f.size ≤ 1048576 := by omega
        have hU : ∃ ev, Hid (addE P f.data.toList s = ev) := ⟨_, Lib.hid rfl⟩
        obtain ⟨ev, HEV⟩ := hU
        have hadd := ST.out.bx.at_.add ST.out.fresh hP f s
        rw [HEV.out] at hadd
        have HADD := Lib.hid hadd
        have c0 := ST.out.bx.box.at (o := 0) rfl
        have c1 := ST.out.bx.box.at (o := 1) rfl
        clear hadd
        by_cases hok : filterZ f.data.toList = true ∧ (f.data.toList, s) ∉ P
        · have hev : ev = 0 := by rw [← HEV.out]; exact addE_new hok.1 hok.2
          subst hev
          have HOK := Lib.hid hok
          clear hok
          go_wp2_with fail
          refine HADD.out.mono ?_
          rintro e w5 ⟨q', n', o', rfl, hnd, _, hB5⟩
          rw [addZ_new HOK.out.1 HOK.out.2] at hnd
          have H5 := Lib.hid (And.intro (ST.out.below hB5) hnd)
          clear hnd hB5 c0 c1 HADD ST
          go_wp2_with fail
          obtain ⟨W6, hW6⟩ : ∃ W, W = w5.alloc (.cells #[.pointer q', .int .i64 (n' : Int)] 27) := ⟨_, rfl⟩
          have h6 : Two w1 W6 T w5.heap.size D.length q n o P q' n' o' (P ++ [(f.data.toList, s)]) := by
            rw [hW6]
            exact ⟨H5.out.1.below (new_below _ _), bxAt_new H5.out.2, fun e => by have := H5.out.1.bx.box.lt; omega⟩
          rw [← hW6]
          have H6 := Lib.hid h6
          generalize w5.heap.size = U at *
          have c0 := h6.was.box.at (o := 0) rfl
          have c1 := h6.was.box.at (o := 1) rfl
          clear hW6 h6 H5
          go_wp2_with fail
          have hPu : (P ++ [(f.data.toList, s)]).length ≤ 110 := by simp; have := H6.out.st.len; omega
          have hdr := H6.out.was.at_.drop (H6.out.st.fresh) hPu f s
          have hmem : (f.data.toList, s) ∈ P ++ [(f.data.toList, s)] := by simp
          rw [show dropK (P ++ [(f.data.toList, s)]) f.data.toList s = 0 by rw [dropK, if_pos HOK.out.1, if_pos hmem], show dropZ (P ++ [(f.data.toList, s)]) f.data.toList s = woP (P ++ [(f.data.toList, s)]) (f.data.toList, s) from if_pos ⟨HOK.out.1, hmem⟩] at hdr
          refine hdr.mono ?_
          rintro e w7 ⟨q3, n3, o3, rfl, hnd3, _, hB7⟩
          have H7 := Lib.hid (And.intro (H6.out.below hB7) hnd3)
          have hvm : ∀ x, x ∈ woP (P ++ [(f.data.toList, s)]) (f.data.toList, s) ↔ x ∈ P := fun x => by
            rw [mem_woP, List.mem_append, List.mem_singleton]
            constructor
            · rintro ⟨h1 | h1, h2⟩
              · exact h1
              · exact absurd h1 h2
            · exact fun h => ⟨.inl h, fun e => HOK.out.2 (e ▸ h)⟩
          have hul : (P ++ [(f.data.toList, s)]).length = P.length + 1 := by simp
          have hvl : (woP (P ++ [(f.data.toList, s)]) (f.data.toList, s)).length = P.length := by
            have := woP_len H6.out.was.at_.ok.nodup hmem
            omega
          have HVS : Hid (ndN o3 - 1 = ndN o - 1) := Lib.hid (hnd3.ok.size.eq H7.out.1.st.bx.at_.ok.size hvm)
          have HVM : Hid (ofZ (mzP (woP (P ++ [(f.data.toList, s)]) (f.data.toList, s)) t.data.toList) = ofZ (mzP P t.data.toList)) := Lib.hid (mz_same hvm _)
          have HUH : Hid (decide ((f.data.toList, s) ∈ P ++ [(f.data.toList, s)]) = true) := Lib.hid (decide_eq_true hmem)
          have HVH : Hid (decide ((f.data.toList, s) ∈ woP (P ++ [(f.data.toList, s)]) (f.data.toList, s)) = false) := Lib.hid (decide_eq_false fun h => (mem_woP.1 h).2 rfl)
          have HUL := Lib.hid hul
          have HVL := Lib.hid hvl
          have hPv : (woP (P ++ [(f.data.toList, s)]) (f.data.toList, s)).length ≤ 110 := by omega
          clear hdr hmem hnd3 hB7 hvm hul hvl c0 c1 HOK HEV
          generalize woP (P ++ [(f.data.toList, s)]) (f.data.toList, s) = Pv at *
          generalize P ++ [(f.data.toList, s)] = Pu at *
          go_wp2_with fail
          obtain ⟨W8, hW8⟩ : ∃ W, W = w7.alloc (.cells #[.pointer q3, .int .i64 (n3 : Int)] 27) := ⟨_, rfl⟩
          have h8 : Three w1 W8 T U w7.heap.size D.length q n o P q' n' o' Pu q3 n3 o3 Pv := by
            rw [hW8]
            exact ⟨H7.out.1.below (new_below _ _), bxAt_new H7.out.2⟩
          rw [← hW8]
          have H8 := Lib.hid h8
          generalize w7.heap.size = V at *
          clear hW8 h8 H7 H6
          go_upto_region 14 with fail
          have hst : Three w1 W8.drew T U V D.length q n o P q' n' o' Pu q3 n3 o3 Pv := H8.out.below (Below.refl _ _).drew
          have hiP : IntKind.i64.wrap ((P.length : Int) + 1) = (P.length : Int) + 1 := IntWalk.i64_in _ (by omega)
          clear H8
          refine wp_region_noPanic ?_
          refine wp_region_held_drew (S := (fun w' => w'.cell? ⟨T, 0, none⟩ = some (.pointer q) ∧ w'.cell? ⟨T, 1, none⟩ = some (.int .i64 (n : Int)) ∧ w'.cell? ⟨U, 0, none⟩ = some (.pointer q') ∧ w'.cell? ⟨U, 1, none⟩ = some (.int .i64 (n' : Int)) ∧ w'.cell? ⟨V, 0, none⟩ = some (.pointer q3) ∧ w'.cell? ⟨V, 1, none⟩ = some (.int .i64 (n3 : Int)))) (by kernel_rfl) ?_ (fun hHeld => ?_)
          · exact ⟨hst.two.st.bx.box.at (o := 0) rfl, hst.two.st.bx.box.at (o := 1) rfl, hst.two.was.box.at (o := 0) rfl, hst.two.was.box.at (o := 1) rfl, hst.v.box.at (o := 0) rfl, hst.v.box.at (o := 1) rfl⟩
          refine wpAnyH_take (i := 0) (oi := ⟨some 84, _, _, _, _, _⟩) (v := ?_) rfl (by kernel_rfl) (by kernel_rfl) (by kernel_rfl) (fun _ _ _ h => h) (Or.inl ⟨by rfl, ?_⟩) (by assumption) ?_
          rotate_left
          · (intro w hSw; (try dsimp only at hSw); go_simp; try with_reducible rfl)
          try simp only [Act.put, List.setIfInBounds_toArray, List.set_cons_zero, List.set_cons_succ]
          refine wpAnyH_take (i := 1) (oi := ⟨some 85, _, _, _, _, _⟩) (v := ?_) rfl (by kernel_rfl) (by kernel_rfl) (by kernel_rfl) (fun _ _ _ h => h) (Or.inl ⟨by rfl, ?_⟩) (by assumption) ?_
          rotate_left
          · (intro w hSw; (try dsimp only at hSw); go_simp; try with_reducible rfl)
          try simp only [Act.put, List.setIfInBounds_toArray, List.set_cons_zero, List.set_cons_succ]
          refine wpAnyH_take (i := 2) (oi := ⟨some 86, _, _, _, _, _⟩) (v := ?_) rfl (by kernel_rfl) (by kernel_rfl) (by kernel_rfl) (fun _ _ _ h => h) (Or.inl ⟨by rfl, ?_⟩) (by assumption) ?_
          rotate_left
          · (intro w hSw; (try dsimp only at hSw); go_simp; try with_reducible rfl)
          try simp only [Act.put, List.setIfInBounds_toArray, List.set_cons_zero, List.set_cons_succ]
          refine wpAnyH_take (i := 3) (oi := ⟨some 87, _, _, _, _, _⟩) (v := ?_) rfl (by kernel_rfl) (by kernel_rfl) (by kernel_rfl) (fun _ _ _ h => h) (Or.inl ⟨by rfl, ?_⟩) (by assumption) ?_
          rotate_left
          · (intro w hSw; (try dsimp only at hSw); go_simp; try with_reducible rfl)
          try simp only [Act.put, List.setIfInBounds_toArray, List.set_cons_zero, List.set_cons_succ]
          refine wpAnyH_take (i := 4) (oi := ⟨some 88, _, _, _, _, _⟩) (v := ?_) rfl (by kernel_rfl) (by kernel_rfl) (by kernel_rfl) (fun _ _ _ h => h) (Or.inl ⟨by rfl, ?_⟩) (by assumption) ?_
          rotate_left
          · (intro w hSw; (try dsimp only at hSw); go_simp; try with_reducible rfl)
          try simp only [Act.put, List.setIfInBounds_toArray, List.set_cons_zero, List.set_cons_succ]
          refine wpAnyH_take (i := 5) (oi := ⟨some 89, _, _, _, _, _⟩) (v := ?_) rfl (by kernel_rfl) (by kernel_rfl) (by kernel_rfl) (fun _ _ _ h => h) (Or.inl ⟨by rfl, ?_⟩) (by assumption) ?_
          rotate_left
          · (intro w hSw; (try dsimp only at hSw); go_simp; try with_reducible rfl)
          try simp only [Act.put, List.setIfInBounds_toArray, List.set_cons_zero, List.set_cons_succ]
          refine wpAnyH_ready (rs := [6]) (by kernel_rfl) (by simp) ?_
          refine AllReadyH.cons (o := ⟨some 90, _, _, _, _, _⟩) rfl (fun K hK => ?_) AllReadyH.nil
          go_simp
          refine (hst.two.was.at_.hasP hPu f s hfs).mono ?_
          rintro e wx ⟨rfl, hBx⟩
          replace hst := hst.below hBx
          rw [HUH.out]
          clear hBx
          go_wp2_with fail
          refine hK.out _ _ ?_ (fun hHeldX => ?_)
          · exact ⟨hst.two.st.bx.box.at (o := 0) rfl, hst.two.st.bx.box.at (o := 1) rfl, hst.two.was.box.at (o := 0) rfl, hst.two.was.box.at (o := 1) rfl, hst.v.box.at (o := 0) rfl, hst.v.box.at (o := 1) rfl⟩
          clear hK K hHeld
          rename _ => hHeld
          try simp only [Act.put, List.setIfInBounds_toArray, List.set_cons_zero, List.set_cons_succ]
          refine wpAnyH_take (i := 7) (oi := ⟨some 91, _, _, _, _, _⟩) (v := ?_) rfl (by kernel_rfl) (by kernel_rfl) (by kernel_rfl) (fun _ _ _ h => h) (Or.inl ⟨by rfl, ?_⟩) (by assumption) ?_
          rotate_left
          · (intro w hSw; (try dsimp only at hSw); go_simp; try with_reducible rfl)
          try simp only [Act.put, List.setIfInBounds_toArray, List.set_cons_zero, List.set_cons_succ]
          refine wpAnyH_take (i := 8) (oi := ⟨some 92, _, _, _, _, _⟩) (v := ?_) rfl (by kernel_rfl) (by kernel_rfl) (by kernel_rfl) (fun _ _ _ h => h) (Or.inl ⟨by rfl, ?_⟩) (by assumption) ?_
          rotate_left
          · (intro w hSw; (try dsimp only at hSw); go_simp; try with_reducible rfl)
          try simp only [Act.put, List.setIfInBounds_toArray, List.set_cons_zero, List.set_cons_succ]
          refine wpAnyH_take (i := 9) (oi := ⟨some 93, _, _, _, _, _⟩) (v := ?_) rfl (by kernel_rfl) (by kernel_rfl) (by kernel_rfl) (fun _ _ _ h => h) (Or.inl ⟨by rfl, ?_⟩) (by assumption) ?_
          rotate_left
          · (intro w hSw; (try dsimp only at hSw); go_simp; try with_reducible rfl)
          try simp only [Act.put, List.setIfInBounds_toArray, List.set_cons_zero, List.set_cons_succ]
          refine wpAnyH_take (i := 11) (oi := ⟨some 95, _, _, _, _, _⟩) (v := ?_) rfl (by kernel_rfl) (by kernel_rfl) (by kernel_rfl) (fun _ _ _ h => h) (Or.inl ⟨by rfl, ?_⟩) (by assumption) ?_
          rotate_left
          · (intro w hSw; (try dsimp only at hSw); go_simp; try with_reducible rfl)
          try simp only [Act.put, List.setIfInBounds_toArray, List.set_cons_zero, List.set_cons_succ]
          refine wpAnyH_ready (rs := [10]) (by kernel_rfl) (by simp) ?_
          refine AllReadyH.cons (o := ⟨some 94, _, _, _, _, _⟩) rfl (fun K hK => ?_) AllReadyH.nil
          go_simp
          refine (hst.two.was.at_.len).mono ?_
          rintro e wx ⟨rfl, hBx⟩
          replace hst := hst.below hBx
          rw [HUL.out, show ((P.length + 1 : Nat) : Int) = (P.length : Int) + 1 by omega]
          clear hBx
          go_wp2_with fail
          refine hK.out _ _ ?_ (fun hHeldX => ?_)
          · exact ⟨hst.two.st.bx.box.at (o := 0) rfl, hst.two.st.bx.box.at (o := 1) rfl, hst.two.was.box.at (o := 0) rfl, hst.two.was.box.at (o := 1) rfl, hst.v.box.at (o := 0) rfl, hst.v.box.at (o := 1) rfl⟩
          clear hK K hHeld
          rename _ => hHeld
          try simp only [Act.put, List.setIfInBounds_toArray, List.set_cons_zero, List.set_cons_succ]
          refine wpAnyH_ready (rs := [12]) (by kernel_rfl) (by simp) ?_
          refine AllReadyH.cons (o := ⟨some 96, _, _, _, _, _⟩) rfl (fun K hK => ?_) AllReadyH.nil
          go_simp
          refine (hst.two.st.bx.at_.len).mono ?_
          rintro e wx ⟨rfl, hBx⟩
          replace hst := hst.below hBx
          clear hBx
          go_wp2_with fail
          refine hK.out _ _ ?_ (fun hHeldX => ?_)
          · exact ⟨hst.two.st.bx.box.at (o := 0) rfl, hst.two.st.bx.box.at (o := 1) rfl, hst.two.was.box.at (o := 0) rfl, hst.two.was.box.at (o := 1) rfl, hst.v.box.at (o := 0) rfl, hst.v.box.at (o := 1) rfl⟩
          clear hK K hHeld
          rename _ => hHeld
          try simp only [Act.put, List.setIfInBounds_toArray, List.set_cons_zero, List.set_cons_succ]
          refine wpAnyH_take (i := 13) (oi := ⟨some 97, _, _, _, _, _⟩) (v := ?_) rfl (by kernel_rfl) (by kernel_rfl) (by kernel_rfl) (fun _ _ _ h => h) (Or.inl ⟨by rfl, ?_⟩) (by assumption) ?_
          rotate_left
          · (intro w hSw; (try dsimp only at hSw); go_simp; try with_reducible rfl)
          try simp only [Act.put, List.setIfInBounds_toArray, List.set_cons_zero, List.set_cons_succ]
          refine wpAnyH_take (i := 14) (oi := ⟨some 98, _, _, _, _, _⟩) (v := ?_) rfl (by kernel_rfl) (by kernel_rfl) (by kernel_rfl) (fun _ _ _ h => h) (Or.inl ⟨by rfl, ?_⟩) (by assumption) ?_
          rotate_left
          · (intro w hSw; (try dsimp only at hSw); go_simp; try with_reducible rfl)
          try simp only [Act.put, List.setIfInBounds_toArray, List.set_cons_zero, List.set_cons_succ]
          refine wpAnyH_take (i := 15) (oi := ⟨some 99, _, _, _, _, _⟩) (v := ?_) rfl (by kernel_rfl) (by kernel_rfl) (by kernel_rfl) (fun _ _ _ h => h) (Or.inl ⟨by rfl, ?_⟩) (by assumption) ?_
          rotate_left
          · (intro w hSw; (try dsimp only at hSw); go_simp; try with_reducible rfl)
          try simp only [Act.put, List.setIfInBounds_toArray, List.set_cons_zero, List.set_cons_succ]
          refine wpAnyH_take (i := 16) (oi := ⟨some 100, _, _, _, _, _⟩) (v := ?_) rfl (by kernel_rfl) (by kernel_rfl) (by kernel_rfl) (fun _ _ _ h => h) (Or.inl ⟨by rfl, ?_⟩) (by assumption) ?_
          rotate_left
          · (intro w hSw; (try dsimp only at hSw); go_simp; try with_reducible rfl)
          try simp only [Act.put, List.setIfInBounds_toArray, List.set_cons_zero, List.set_cons_succ]
          refine wpAnyH_take (i := 17) (oi := ⟨some 101, _, _, _, _, _⟩) (v := ?_) rfl (by kernel_rfl) (by kernel_rfl) (by kernel_rfl) (fun _ _ _ h => h) (Or.inl ⟨by rfl, ?_⟩) (by assumption) ?_
          rotate_left
          · (intro w hSw; (try dsimp only at hSw); go_simp; try with_reducible rfl)
          try simp only [Act.put, List.setIfInBounds_toArray, List.set_cons_zero, List.set_cons_succ]
          refine wpAnyH_take (i := 19) (oi := ⟨some 103, _, _, _, _, _⟩) (v := ?_) rfl (by kernel_rfl) (by kernel_rfl) (by kernel_rfl) (fun _ _ _ h => h) (Or.inl ⟨by rfl, ?_⟩) (by assumption) ?_
          rotate_left
          · (intro w hSw; (try dsimp only at hSw); go_simp; try with_reducible rfl)
          try simp only [Act.put, List.setIfInBounds_toArray, List.set_cons_zero, List.set_cons_succ]
          refine wpAnyH_ready (rs := [18]) (by kernel_rfl) (by simp) ?_
          refine AllReadyH.cons (o := ⟨some 102, _, _, _, _, _⟩) rfl (fun K hK => ?_) AllReadyH.nil
          go_simp
          refine (hst.v.at_.len).mono ?_
          rintro e wx ⟨rfl, hBx⟩
          replace hst := hst.below hBx
          rw [HVL.out]
          clear hBx
          go_wp2_with fail
          refine hK.out _ _ ?_ (fun hHeldX => ?_)
          · exact ⟨hst.two.st.bx.box.at (o := 0) rfl, hst.two.st.bx.box.at (o := 1) rfl, hst.two.was.box.at (o := 0) rfl, hst.two.was.box.at (o := 1) rfl, hst.v.box.at (o := 0) rfl, hst.v.box.at (o := 1) rfl⟩
          clear hK K hHeld
          rename _ => hHeld
          try simp only [Act.put, List.setIfInBounds_toArray, List.set_cons_zero, List.set_cons_succ]
          refine wpAnyH_ready (rs := [20]) (by kernel_rfl) (by simp) ?_
          refine AllReadyH.cons (o := ⟨some 104, _, _, _, _, _⟩) rfl (fun K hK => ?_) AllReadyH.nil
          go_simp
          refine (hst.two.st.bx.at_.len).mono ?_
          rintro e wx ⟨rfl, hBx⟩
          replace hst := hst.below hBx
          clear hBx
          go_wp2_with fail
          refine hK.out _ _ ?_ (fun hHeldX => ?_)
          · exact ⟨hst.two.st.bx.box.at (o := 0) rfl, hst.two.st.bx.box.at (o := 1) rfl, hst.two.was.box.at (o := 0) rfl, hst.two.was.box.at (o := 1) rfl, hst.v.box.at (o := 0) rfl, hst.v.box.at (o := 1) rfl⟩
          clear hK K hHeld
          rename _ => hHeld
          try simp only [Act.put, List.setIfInBounds_toArray, List.set_cons_zero, List.set_cons_succ]
          refine wpAnyH_take (i := 21) (oi := ⟨some 105, _, _, _, _, _⟩) (v := ?_) rfl (by kernel_rfl) (by kernel_rfl) (by kernel_rfl) (fun _ _ _ h => h) (Or.inl ⟨by rfl, ?_⟩) (by assumption) ?_
          rotate_left
          · (intro w hSw; (try dsimp only at hSw); go_simp; try with_reducible rfl)
          try simp only [Act.put, List.setIfInBounds_toArray, List.set_cons_zero, List.set_cons_succ]
          refine wpAnyH_take (i := 22) (oi := ⟨some 106, _, _, _, _, _⟩) (v := ?_) rfl (by kernel_rfl) (by kernel_rfl) (by kernel_rfl) (fun _ _ _ h => h) (Or.inl ⟨by rfl, ?_⟩) (by assumption) ?_
          rotate_left
          · (intro w hSw; (try dsimp only at hSw); go_simp; try with_reducible rfl)
          try simp only [Act.put, List.setIfInBounds_toArray, List.set_cons_zero, List.set_cons_succ]
          refine wpAnyH_take (i := 23) (oi := ⟨some 107, _, _, _, _, _⟩) (v := ?_) rfl (by kernel_rfl) (by kernel_rfl) (by kernel_rfl) (fun _ _ _ h => h) (Or.inl ⟨by rfl, ?_⟩) (by assumption) ?_
          rotate_left
          · (intro w hSw; (try dsimp only at hSw); go_simp; try with_reducible rfl)
          try simp only [Act.put, List.setIfInBounds_toArray, List.set_cons_zero, List.set_cons_succ]
          refine wpAnyH_take (i := 24) (oi := ⟨some 108, _, _, _, _, _⟩) (v := ?_) rfl (by kernel_rfl) (by kernel_rfl) (by kernel_rfl) (fun _ _ _ h => h) (Or.inl ⟨by rfl, ?_⟩) (by assumption) ?_
          rotate_left
          · (intro w hSw; (try dsimp only at hSw); go_simp; try with_reducible rfl)
          try simp only [Act.put, List.setIfInBounds_toArray, List.set_cons_zero, List.set_cons_succ]
          refine wpAnyH_take (i := 26) (oi := ⟨some 110, _, _, _, _, _⟩) (v := ?_) rfl (by kernel_rfl) (by kernel_rfl) (by kernel_rfl) (fun _ _ _ h => h) (Or.inl ⟨by rfl, ?_⟩) (by assumption) ?_
          rotate_left
          · (intro w hSw; (try dsimp only at hSw); go_simp; try with_reducible rfl)
          try simp only [Act.put, List.setIfInBounds_toArray, List.set_cons_zero, List.set_cons_succ]
          refine wpAnyH_ready (rs := [25]) (by kernel_rfl) (by simp) ?_
          refine AllReadyH.cons (o := ⟨some 109, _, _, _, _, _⟩) rfl (fun K hK => ?_) AllReadyH.nil
          go_simp
          refine (hst.v.at_.size hPv).mono ?_
          rintro e wx ⟨rfl, hBx⟩
          replace hst := hst.below hBx
          rw [HVS.out]
          clear hBx
          go_wp2_with fail
          refine hK.out _ _ ?_ (fun hHeldX => ?_)
          · exact ⟨hst.two.st.bx.box.at (o := 0) rfl, hst.two.st.bx.box.at (o := 1) rfl, hst.two.was.box.at (o := 0) rfl, hst.two.was.box.at (o := 1) rfl, hst.v.box.at (o := 0) rfl, hst.v.box.at (o := 1) rfl⟩
          clear hK K hHeld
          rename _ => hHeld
          try simp only [Act.put, List.setIfInBounds_toArray, List.set_cons_zero, List.set_cons_succ]
          refine wpAnyH_ready (rs := [27]) (by kernel_rfl) (by simp) ?_
          refine AllReadyH.cons (o := ⟨some 111, _, _, _, _, _⟩) rfl (fun K hK => ?_) AllReadyH.nil
          go_simp
          refine (hst.two.st.bx.at_.size hP).mono ?_
          rintro e wx ⟨rfl, hBx⟩
          replace hst := hst.below hBx
          clear hBx
          go_wp2_with fail
          refine hK.out _ _ ?_ (fun hHeldX => ?_)
          · exact ⟨hst.two.st.bx.box.at (o := 0) rfl, hst.two.st.bx.box.at (o := 1) rfl, hst.two.was.box.at (o := 0) rfl, hst.two.was.box.at (o := 1) rfl, hst.v.box.at (o := 0) rfl, hst.v.box.at (o := 1) rfl⟩
          clear hK K hHeld
          rename _ => hHeld
          try simp only [Act.put, List.setIfInBounds_toArray, List.set_cons_zero, List.set_cons_succ]
          refine wpAnyH_take (i := 28) (oi := ⟨some 112, _, _, _, _, _⟩) (v := ?_) rfl (by kernel_rfl) (by kernel_rfl) (by kernel_rfl) (fun _ _ _ h => h) (Or.inl ⟨by rfl, ?_⟩) (by assumption) ?_
          rotate_left
          · (intro w hSw; (try dsimp only at hSw); go_simp; try with_reducible rfl)
          try simp only [Act.put, List.setIfInBounds_toArray, List.set_cons_zero, List.set_cons_succ]
          refine wpAnyH_take (i := 29) (oi := ⟨some 113, _, _, _, _, _⟩) (v := ?_) rfl (by kernel_rfl) (by kernel_rfl) (by kernel_rfl) (fun _ _ _ h => h) (Or.inl ⟨by rfl, ?_⟩) (by assumption) ?_
          rotate_left
          · (intro w hSw; (try dsimp only at hSw); go_simp; try with_reducible rfl)
          try simp only [Act.put, List.setIfInBounds_toArray, List.set_cons_zero, List.set_cons_succ]
          refine wpAnyH_take (i := 30) (oi := ⟨some 114, _, _, _, _, _⟩) (v := ?_) rfl (by kernel_rfl) (by kernel_rfl) (by kernel_rfl) (fun _ _ _ h => h) (Or.inl ⟨by rfl, ?_⟩) (by assumption) ?_
          rotate_left
          · (intro w hSw; (try dsimp only at hSw); go_simp; try with_reducible rfl)
          try simp only [Act.put, List.setIfInBounds_toArray, List.set_cons_zero, List.set_cons_succ]
          refine wpAnyH_take (i := 31) (oi := ⟨some 115, _, _, _, _, _⟩) (v := ?_) rfl (by kernel_rfl) (by kernel_rfl) (by kernel_rfl) (fun _ _ _ h => h) (Or.inl ⟨by rfl, ?_⟩) (by assumption) ?_
          rotate_left
          · (intro w hSw; (try dsimp only at hSw); go_simp; try with_reducible rfl)
          try simp only [Act.put, List.setIfInBounds_toArray, List.set_cons_zero, List.set_cons_succ]
          refine wpAnyH_take (i := 32) (oi := ⟨some 116, _, _, _, _, _⟩) (v := ?_) rfl (by kernel_rfl) (by kernel_rfl) (by kernel_rfl) (fun _ _ _ h => h) (Or.inl ⟨by rfl, ?_⟩) (by assumption) ?_
          rotate_left
          · (intro w hSw; (try dsimp only at hSw); go_simp; try with_reducible rfl)
          try simp only [Act.put, List.setIfInBounds_toArray, List.set_cons_zero, List.set_cons_succ]
          refine wpAnyH_take (i := 33) (oi := ⟨some 117, _, _, _, _, _⟩) (v := ?_) rfl (by kernel_rfl) (by kernel_rfl) (by kernel_rfl) (fun _ _ _ h => h) (Or.inl ⟨by rfl, ?_⟩) (by assumption) ?_
          rotate_left
          · (intro w hSw; (try dsimp only at hSw); go_simp; try with_reducible rfl)
          try simp only [Act.put, List.setIfInBounds_toArray, List.set_cons_zero, List.set_cons_succ]
          refine wpAnyH_ready (rs := [34]) (by kernel_rfl) (by simp) ?_
          refine AllReadyH.cons (o := ⟨some 118, _, _, _, _, _⟩) rfl (fun K hK => ?_) AllReadyH.nil
          go_simp
          refine (hst.v.at_.hasP hPv f s hfs).mono ?_
          rintro e wx ⟨rfl, hBx⟩
          replace hst := hst.below hBx
          rw [HVH.out]
          clear hBx
          go_wp2_with fail
          refine hK.out _ _ ?_ (fun hHeldX => ?_)
          · exact ⟨hst.two.st.bx.box.at (o := 0) rfl, hst.two.st.bx.box.at (o := 1) rfl, hst.two.was.box.at (o := 0) rfl, hst.two.was.box.at (o := 1) rfl, hst.v.box.at (o := 0) rfl, hst.v.box.at (o := 1) rfl⟩
          clear hK K hHeld
          rename _ => hHeld
          try simp only [Act.put, List.setIfInBounds_toArray, List.set_cons_zero, List.set_cons_succ]
          refine wpAnyH_take (i := 35) (oi := ⟨some 119, _, _, _, _, _⟩) (v := ?_) rfl (by kernel_rfl) (by kernel_rfl) (by kernel_rfl) (fun _ _ _ h => h) (Or.inl ⟨by rfl, ?_⟩) (by assumption) ?_
          rotate_left
          · (intro w hSw; (try dsimp only at hSw); go_simp; try with_reducible rfl)
          try simp only [Act.put, List.setIfInBounds_toArray, List.set_cons_zero, List.set_cons_succ]
          refine wpAnyH_take (i := 36) (oi := ⟨some 120, _, _, _, _, _⟩) (v := ?_) rfl (by kernel_rfl) (by kernel_rfl) (by kernel_rfl) (fun _ _ _ h => h) (Or.inl ⟨by rfl, ?_⟩) (by assumption) ?_
          rotate_left
          · (intro w hSw; (try dsimp only at hSw); go_simp; try with_reducible rfl)
          try simp only [Act.put, List.setIfInBounds_toArray, List.set_cons_zero, List.set_cons_succ]
          refine wpAnyH_take (i := 37) (oi := ⟨some 121, _, _, _, _, _⟩) (v := ?_) rfl (by kernel_rfl) (by kernel_rfl) (by kernel_rfl) (fun _ _ _ h => h) (Or.inl ⟨by rfl, ?_⟩) (by assumption) ?_
          rotate_left
          · (intro w hSw; (try dsimp only at hSw); go_simp; try with_reducible rfl)
          try simp only [Act.put, List.setIfInBounds_toArray, List.set_cons_zero, List.set_cons_succ]
          refine wpAnyH_take (i := 38) (oi := ⟨some 122, _, _, _, _, _⟩) (v := ?_) rfl (by kernel_rfl) (by kernel_rfl) (by kernel_rfl) (fun _ _ _ h => h) (Or.inl ⟨by rfl, ?_⟩) (by assumption) ?_
          rotate_left
          · (intro w hSw; (try dsimp only at hSw); go_simp; try with_reducible rfl)
          try simp only [Act.put, List.setIfInBounds_toArray, List.set_cons_zero, List.set_cons_succ]
          refine wpAnyH_take (i := 39) (oi := ⟨some 123, _, _, _, _, _⟩) (v := ?_) rfl (by kernel_rfl) (by kernel_rfl) (by kernel_rfl) (fun _ _ _ h => h) (Or.inl ⟨by rfl, ?_⟩) (by assumption) ?_
          rotate_left
          · (intro w hSw; (try dsimp only at hSw); go_simp; try with_reducible rfl)
          try simp only [Act.put, List.setIfInBounds_toArray, List.set_cons_zero, List.set_cons_succ]
          refine wpAnyH_take (i := 42) (oi := ⟨some 126, _, _, _, _, _⟩) (v := ?_) rfl (by kernel_rfl) (by kernel_rfl) (by kernel_rfl) (fun _ _ _ h => h) (Or.inl ⟨by rfl, ?_⟩) (by assumption) ?_
          rotate_left
          · (intro w hSw; (try dsimp only at hSw); go_simp; try with_reducible rfl)
          try simp only [Act.put, List.setIfInBounds_toArray, List.set_cons_zero, List.set_cons_succ]
          refine wpAnyH_take (i := 43) (oi := ⟨some 127, _, _, _, _, _⟩) (v := ?_) rfl (by kernel_rfl) (by kernel_rfl) (by kernel_rfl) (fun _ _ _ h => h) (Or.inl ⟨by rfl, ?_⟩) (by assumption) ?_
          rotate_left
          · (intro w hSw; (try dsimp only at hSw); go_simp; try with_reducible rfl)
          try simp only [Act.put, List.setIfInBounds_toArray, List.set_cons_zero, List.set_cons_succ]
          refine wpAnyH_ready (rs := [40]) (by kernel_rfl) (by simp) ?_
          refine AllReadyH.cons (o := ⟨some 124, _, _, _, _, _⟩) rfl (fun K hK => ?_) AllReadyH.nil
          go_simp
          refine (hst.v.at_.mat hPv t).mono ?_
          rintro e wx ⟨r1, rfl, hs1, hBx⟩
          replace hst := hst.below hBx
          rw [HVM.out] at hs1
          clear hBx
          go_wp2_with fail
          refine hK.out _ _ ?_ (fun hHeldX => ?_)
          · exact ⟨hst.two.st.bx.box.at (o := 0) rfl, hst.two.st.bx.box.at (o := 1) rfl, hst.two.was.box.at (o := 0) rfl, hst.two.was.box.at (o := 1) rfl, hst.v.box.at (o := 0) rfl, hst.v.box.at (o := 1) rfl⟩
          clear hK K hHeld
          rename _ => hHeld
          try simp only [Act.put, List.setIfInBounds_toArray, List.set_cons_zero, List.set_cons_succ]
          refine wpAnyH_ready (rs := [41]) (by kernel_rfl) (by simp) ?_
          refine AllReadyH.cons (o := ⟨some 125, _, _, _, _, _⟩) rfl (fun K hK => ?_) AllReadyH.nil
          go_simp
          refine (list13 r1 _ _ hs1 (by have := mz_len P t.data.toList; omega)).mono ?_
          rintro e wx ⟨r2, rfl, hn2, hBx⟩
          replace hst := hst.below hBx
          clear hBx
          go_wp2_with fail
          refine hK.out _ _ ?_ (fun hHeldX => ?_)
          · exact ⟨hst.two.st.bx.box.at (o := 0) rfl, hst.two.st.bx.box.at (o := 1) rfl, hst.two.was.box.at (o := 0) rfl, hst.two.was.box.at (o := 1) rfl, hst.v.box.at (o := 0) rfl, hst.v.box.at (o := 1) rfl⟩
          clear hK K hHeld
          rename _ => hHeld
          try simp only [Act.put, List.setIfInBounds_toArray, List.set_cons_zero, List.set_cons_succ]
          refine wpAnyH_ready (rs := [44]) (by kernel_rfl) (by simp) ?_
          refine AllReadyH.cons (o := ⟨some 128, _, _, _, _, _⟩) rfl (fun K hK => ?_) AllReadyH.nil
          go_simp
          refine (hst.two.st.bx.at_.mat hP t).mono ?_
          rintro e wx ⟨r3, rfl, hs3, hBx⟩
          replace hst := hst.below hBx
          replace hn2 := hn2.below hBx
          clear hBx
          go_wp2_with fail
          refine hK.out _ _ ?_ (fun hHeldX => ?_)
          · exact ⟨hst.two.st.bx.box.at (o := 0) rfl, hst.two.st.bx.box.at (o := 1) rfl, hst.two.was.box.at (o := 0) rfl, hst.two.was.box.at (o := 1) rfl, hst.v.box.at (o := 0) rfl, hst.v.box.at (o := 1) rfl⟩
          clear hK K hHeld
          rename _ => hHeld
          try simp only [Act.put, List.setIfInBounds_toArray, List.set_cons_zero, List.set_cons_succ]
          refine wpAnyH_ready (rs := [45]) (by kernel_rfl) (by simp) ?_
          refine AllReadyH.cons (o := ⟨some 129, _, _, _, _, _⟩) rfl (fun K hK => ?_) AllReadyH.nil
          go_simp
          refine (list13 r3 _ _ hs3 (by have := mz_len P t.data.toList; omega)).mono ?_
          rintro e wx ⟨r4, rfl, hn4, hBx⟩
          replace hst := hst.below hBx
          replace hn2 := hn2.below hBx
          clear hBx
          go_wp2_with fail
          refine hK.out _ _ ?_ (fun hHeldX => ?_)
          · exact ⟨hst.two.st.bx.box.at (o := 0) rfl, hst.two.st.bx.box.at (o := 1) rfl, hst.two.was.box.at (o := 0) rfl, hst.two.was.box.at (o := 1) rfl, hst.v.box.at (o := 0) rfl, hst.v.box.at (o := 1) rfl⟩
          clear hK K hHeld
          rename _ => hHeld
          try simp only [Act.put, List.setIfInBounds_toArray, List.set_cons_zero, List.set_cons_succ]
          refine wpAnyH_ready (rs := [46]) (by kernel_rfl) (by simp) ?_
          refine AllReadyH.cons (o := ⟨some 130, _, _, _, _, _⟩) rfl (fun K hK => ?_) AllReadyH.nil
          go_simp
          refine (ref_Ints _ _ _ _ _ hn2 hn4 (by have := mz_len P t.data.toList; omega) (by have := mz_len P t.data.toList; omega)).mono ?_
          rintro e wx ⟨rfl, hBx⟩
          replace hst := hst.below hBx
          rw [decide_eq_true rfl]
          clear hBx
          go_wp2_with fail
          refine hK.out _ _ ?_ (fun hHeldX => ?_)
          · exact ⟨hst.two.st.bx.box.at (o := 0) rfl, hst.two.st.bx.box.at (o := 1) rfl, hst.two.was.box.at (o := 0) rfl, hst.two.was.box.at (o := 1) rfl, hst.v.box.at (o := 0) rfl, hst.v.box.at (o := 1) rfl⟩
          clear hK K hHeld
          rename _ => hHeld
          try simp only [Act.put, List.setIfInBounds_toArray, List.set_cons_zero, List.set_cons_succ]
          refine wpAnyH_take (i := 47) (oi := ⟨some 131, _, _, _, _, _⟩) (v := ?_) rfl (by kernel_rfl) (by kernel_rfl) (by kernel_rfl) (fun _ _ _ h => h) (Or.inl ⟨by rfl, ?_⟩) (by assumption) ?_
          rotate_left
          · (intro w hSw; (try dsimp only at hSw); go_simp; try with_reducible rfl)
          try simp only [Act.put, List.setIfInBounds_toArray, List.set_cons_zero, List.set_cons_succ]
          refine wpAnyH_take (i := 48) (oi := ⟨some 8, _, _, _, _, _⟩) (v := ?_) rfl (by kernel_rfl) (by kernel_rfl) (by kernel_rfl) (fun _ _ _ h => h) (Or.inl ⟨by rfl, ?_⟩) (by assumption) ?_
          rotate_left
          · (intro w hSw; (try dsimp only at hSw); go_simp; try with_reducible rfl)
          try simp only [Act.put, List.setIfInBounds_toArray, List.set_cons_zero, List.set_cons_succ]
          refine wpAnyH_done (by kernel_rfl) ?_ _
          refine NoPanic.normal ?_
          have HB := Lib.hid (below_step B1.out hst.two.st.low)
          clear hst hHeld hs1 hn2 hs3 hn4
          go_wp2
          go_ret
          exact ⟨by simp, HB.out⟩
        · obtain ⟨hv, hev0, hev5, hdec⟩ : ∃ hv : Bool, (ev != 0) = true ∧ (ev == 5) = hv ∧ decide ((f.data.toList, s) ∈ P) = hv := by
            rw [← HEV.out]
            cases hff : filterZ f.data.toList with
            | false =>
              rw [addE_bad hff]
              exact ⟨false, by decide, by decide, decide_eq_false fun h => by have := ST.out.bx.at_.ok.filt _ h; rw [hff] at this; cases this⟩
            | true =>
              have hin : (f.data.toList, s) ∈ P := Classical.byContradiction fun h => hok ⟨hff, h⟩
              rw [addE_twice hff hin]
              exact ⟨true, by decide, by decide, decide_eq_true hin⟩
          have hzP : addZ P f.data.toList s = P := if_neg hok
          have HDEC := Lib.hid hdec
          have HZP := Lib.hid hzP
          clear hok hdec hzP
          go_wp2_with fail
          refine HADD.out.mono ?_
          rintro e w5 ⟨q', n', o', rfl, hnd, _, hB5⟩
          rw [HZP.out] at hnd
          have H5 := Lib.hid (And.intro (ST.out.below hB5) hnd)
          clear hnd hB5 c0 c1 HADD ST HEV
          go_wp2_with fail
          obtain ⟨W6, hW6⟩ : ∃ W, W = w5.alloc (.cells #[.pointer q', .int .i64 (n' : Int)] 27) := ⟨_, rfl⟩
          have h6 : Two w1 W6 T w5.heap.size D.length q n o P q' n' o' P := by
            rw [hW6]
            exact ⟨H5.out.1.below (new_below _ _), bxAt_new H5.out.2, fun e => by have := H5.out.1.bx.box.lt; omega⟩
          rw [← hW6]
          have H6 := Lib.hid h6
          generalize w5.heap.size = U at *
          clear hW6 h6 H5
          go_upto_region 12 with fail
          have hst : Two w1 W6.drew T U D.length q n o P q' n' o' P := H6.out.below (Below.refl _ _).drew
          clear H6
          refine wp_region_noPanic ?_
          refine wp_region_held_drew (S := (fun w' => w'.cell? ⟨T, 0, none⟩ = some (.pointer q) ∧ w'.cell? ⟨T, 1, none⟩ = some (.int .i64 (n : Int)) ∧ w'.cell? ⟨U, 0, none⟩ = some (.pointer q') ∧ w'.cell? ⟨U, 1, none⟩ = some (.int .i64 (n' : Int)))) (by kernel_rfl) ?_ (fun hHeld => ?_)
          · exact ⟨hst.st.bx.box.at (o := 0) rfl, hst.st.bx.box.at (o := 1) rfl, hst.was.box.at (o := 0) rfl, hst.was.box.at (o := 1) rfl⟩
          refine wpAnyH_take (i := 0) (oi := ⟨some 63, _, _, _, _, _⟩) (v := ?_) rfl (by kernel_rfl) (by kernel_rfl) (by kernel_rfl) (fun _ _ _ h => h) (Or.inl ⟨by rfl, ?_⟩) (by assumption) ?_
          rotate_left
          · (intro w hSw; (try dsimp only at hSw); go_simp; try with_reducible rfl)
          try simp only [Act.put, List.setIfInBounds_toArray, List.set_cons_zero, List.set_cons_succ]
          refine wpAnyH_take (i := 2) (oi := ⟨some 65, _, _, _, _, _⟩) (v := ?_) rfl (by kernel_rfl) (by kernel_rfl) (by kernel_rfl) (fun _ _ _ h => h) (Or.inl ⟨by rfl, ?_⟩) (by assumption) ?_
          rotate_left
          · (intro w hSw; (try dsimp only at hSw); go_simp; try with_reducible rfl)
          try simp only [Act.put, List.setIfInBounds_toArray, List.set_cons_zero, List.set_cons_succ]
          refine wpAnyH_ready (rs := [1]) (by kernel_rfl) (by simp) ?_
          refine AllReadyH.cons (o := ⟨some 64, _, _, _, _, _⟩) rfl (fun K hK => ?_) AllReadyH.nil
          go_simp
          refine (hst.was.at_.len).mono ?_
          rintro e wx ⟨rfl, hBx⟩
          replace hst := hst.below hBx
          clear hBx
          go_wp2_with fail
          refine hK.out _ _ ?_ (fun hHeldX => ?_)
          · exact ⟨hst.st.bx.box.at (o := 0) rfl, hst.st.bx.box.at (o := 1) rfl, hst.was.box.at (o := 0) rfl, hst.was.box.at (o := 1) rfl⟩
          clear hK K hHeld
          rename _ => hHeld
          try simp only [Act.put, List.setIfInBounds_toArray, List.set_cons_zero, List.set_cons_succ]
          refine wpAnyH_ready (rs := [3]) (by kernel_rfl) (by simp) ?_
          refine AllReadyH.cons (o := ⟨some 66, _, _, _, _, _⟩) rfl (fun K hK => ?_) AllReadyH.nil
          go_simp
          refine (hst.st.bx.at_.len).mono ?_
          rintro e wx ⟨rfl, hBx⟩
          replace hst := hst.below hBx
          clear hBx
          go_wp2_with fail
          refine hK.out _ _ ?_ (fun hHeldX => ?_)
          · exact ⟨hst.st.bx.box.at (o := 0) rfl, hst.st.bx.box.at (o := 1) rfl, hst.was.box.at (o := 0) rfl, hst.was.box.at (o := 1) rfl⟩
          clear hK K hHeld
          rename _ => hHeld
          try simp only [Act.put, List.setIfInBounds_toArray, List.set_cons_zero, List.set_cons_succ]
          refine wpAnyH_take (i := 4) (oi := ⟨some 67, _, _, _, _, _⟩) (v := ?_) rfl (by kernel_rfl) (by kernel_rfl) (by kernel_rfl) (fun _ _ _ h => h) (Or.inl ⟨by rfl, ?_⟩) (by assumption) ?_
          rotate_left
          · (intro w hSw; (try dsimp only at hSw); go_simp; try with_reducible rfl)
          try simp only [Act.put, List.setIfInBounds_toArray, List.set_cons_zero, List.set_cons_succ]
          refine wpAnyH_take (i := 5) (oi := ⟨some 68, _, _, _, _, _⟩) (v := ?_) rfl (by kernel_rfl) (by kernel_rfl) (by kernel_rfl) (fun _ _ _ h => h) (Or.inl ⟨by rfl, ?_⟩) (by assumption) ?_
          rotate_left
          · (intro w hSw; (try dsimp only at hSw); go_simp; try with_reducible rfl)
          try simp only [Act.put, List.setIfInBounds_toArray, List.set_cons_zero, List.set_cons_succ]
          refine wpAnyH_take (i := 6) (oi := ⟨some 69, _, _, _, _, _⟩) (v := ?_) rfl (by kernel_rfl) (by kernel_rfl) (by kernel_rfl) (fun _ _ _ h => h) (Or.inl ⟨by rfl, ?_⟩) (by assumption) ?_
          rotate_left
          · (intro w hSw; (try dsimp only at hSw); go_simp; try with_reducible rfl)
          try simp only [Act.put, List.setIfInBounds_toArray, List.set_cons_zero, List.set_cons_succ]
          refine wpAnyH_take (i := 7) (oi := ⟨some 70, _, _, _, _, _⟩) (v := ?_) rfl (by kernel_rfl) (by kernel_rfl) (by kernel_rfl) (fun _ _ _ h => h) (Or.inl ⟨by rfl, ?_⟩) (by assumption) ?_
          rotate_left
          · (intro w hSw; (try dsimp only at hSw); go_simp; try with_reducible rfl)
          try simp only [Act.put, List.setIfInBounds_toArray, List.set_cons_zero, List.set_cons_succ]
          refine wpAnyH_take (i := 8) (oi := ⟨some 71, _, _, _, _, _⟩) (v := ?_) rfl (by kernel_rfl) (by kernel_rfl) (by kernel_rfl) (fun _ _ _ h => h) (Or.inl ⟨by rfl, ?_⟩) (by assumption) ?_
          rotate_left
          · (intro w hSw; (try dsimp only at hSw); go_simp; try with_reducible rfl)
          try simp only [Act.put, List.setIfInBounds_toArray, List.set_cons_zero, List.set_cons_succ]
          refine wpAnyH_take (i := 9) (oi := ⟨some 72, _, _, _, _, _⟩) (v := ?_) rfl (by kernel_rfl) (by kernel_rfl) (by kernel_rfl) (fun _ _ _ h => h) (Or.inl ⟨by rfl, ?_⟩) (by assumption) ?_
          rotate_left
          · (intro w hSw; (try dsimp only at hSw); go_simp; try with_reducible rfl)
          try simp only [Act.put, List.setIfInBounds_toArray, List.set_cons_zero, List.set_cons_succ]
          refine wpAnyH_take (i := 10) (oi := ⟨some 73, _, _, _, _, _⟩) (v := ?_) rfl (by kernel_rfl) (by kernel_rfl) (by kernel_rfl) (fun _ _ _ h => h) (Or.inl ⟨by rfl, ?_⟩) (by assumption) ?_
          rotate_left
          · (intro w hSw; (try dsimp only at hSw); go_simp; try with_reducible rfl)
          try simp only [Act.put, List.setIfInBounds_toArray, List.set_cons_zero, List.set_cons_succ]
          refine wpAnyH_ready (rs := [11]) (by kernel_rfl) (by simp) ?_
          refine AllReadyH.cons (o := ⟨some 74, _, _, _, _, _⟩) rfl (fun K hK => ?_) AllReadyH.nil
          go_simp
          refine (hst.st.bx.at_.hasP hP f s hfs).mono ?_
          rintro e wx ⟨rfl, hBx⟩
          replace hst := hst.below hBx
          rw [HDEC.out]
          clear hBx
          go_wp2_with fail
          refine hK.out _ _ ?_ (fun hHeldX => ?_)
          · exact ⟨hst.st.bx.box.at (o := 0) rfl, hst.st.bx.box.at (o := 1) rfl, hst.was.box.at (o := 0) rfl, hst.was.box.at (o := 1) rfl⟩
          clear hK K hHeld
          rename _ => hHeld
          try simp only [Act.put, List.setIfInBounds_toArray, List.set_cons_zero, List.set_cons_succ]
          refine wpAnyH_take (i := 12) (oi := ⟨some 75, _, _, _, _, _⟩) (v := ?_) rfl (by kernel_rfl) (by kernel_rfl) (by kernel_rfl) (fun _ _ _ h => h) (Or.inl ⟨by rfl, ?_⟩) (by assumption) ?_
          rotate_left
          · (intro w hSw; (try dsimp only at hSw); go_simp; try with_reducible rfl)
          try simp only [Act.put, List.setIfInBounds_toArray, List.set_cons_zero, List.set_cons_succ]
          refine wpAnyH_take (i := 13) (oi := ⟨some 76, _, _, _, _, _⟩) (v := ?_) rfl (by kernel_rfl) (by kernel_rfl) (by kernel_rfl) (fun _ _ _ h => h) (Or.inl ⟨by rfl, ?_⟩) (by assumption) ?_
          rotate_left
          · (intro w hSw; (try dsimp only at hSw); go_simp; try with_reducible rfl)
          try simp only [Act.put, List.setIfInBounds_toArray, List.set_cons_zero, List.set_cons_succ]
          refine wpAnyH_take (i := 14) (oi := ⟨some 8, _, _, _, _, _⟩) (v := ?_) rfl (by kernel_rfl) (by kernel_rfl) (by kernel_rfl) (fun _ _ _ h => h) (Or.inl ⟨by rfl, ?_⟩) (by assumption) ?_
          rotate_left
          · (intro w hSw; (try dsimp only at hSw); go_simp; try with_reducible rfl)
          try simp only [Act.put, List.setIfInBounds_toArray, List.set_cons_zero, List.set_cons_succ]
          refine wpAnyH_done (by kernel_rfl) ?_ _
          refine NoPanic.normal ?_
          have HB := Lib.hid (below_step B1.out hst.st.low)
          clear hst hHeld
          go_wp2
          go_ret
          exact ⟨by simp, HB.out⟩
end Go.Proofs.Ytmfejpbijllojaa
