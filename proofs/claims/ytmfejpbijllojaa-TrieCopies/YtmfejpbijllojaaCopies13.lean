/- TrieCopies' walk. Made by tools/gen_law13.py. -/
import Derived.Test.YtmfejpbijllojaaLawT13
import Derived.Test.YtmfejpbijllojaaRef1
import Derived.Deep.CutBlock
import Derived.Deep.RegionHeld3
namespace Go.Proofs.Ytmfejpbijllojaa
open Go.RowKit Go.Shelf

set_option maxRecDepth 100000 in
set_option maxHeartbeats 8000000 in
theorem copies13 (a : Option Addr) (cap : Nat) (D : List Td) (w : World) (ht : DIn w a D) :
    Calls Try.prog 3 #[.slice a D.length cap] w fun e w' => e = .returned (.bool true) ∧ Below w.heap.size w w' := by
  have HT := Lib.hid ht
  clear ht
  cases hgr : greatZ D with
  | true =>
    have HG := Lib.hid hgr
    clear hgr
    go_enter Try.func3, Try.ntmps3
    go_wp2_with fail
    refine (awake13 w).mono ?_
    rintro e w1 ⟨rfl, hb⟩
    have B1 := Lib.hid hb
    have T1 := Lib.hid (HT.out.below hb)
    clear hb
    go_wp2_with fail
    refine (great13 a cap D w1 T1.out).mono ?_
    rintro e w' ⟨rfl, rfl⟩
    rw [HG.out]
    go_wp2
    go_ret
    exact ⟨rfl, B1.out⟩
  | false =>
    have HG := Lib.hid hgr
    obtain ⟨hD100, hf100⟩ := small_of hgr
    have HF := Lib.hid hf100
    clear hgr hf100
    go_enter Try.func3, Try.ntmps3
    go_wp2_with fail
    refine (awake13 w).mono ?_
    rintro e w1 ⟨rfl, hb⟩
    have B1 := Lib.hid hb
    have T1 := Lib.hid (HT.out.below hb)
    clear hb
    go_wp2_with fail
    refine (great13 a cap D w1 T1.out).mono ?_
    rintro e w' ⟨rfl, rfl⟩
    rw [HG.out]
    go_wp2_with fail
    have S3 : Hid (CSt w1 (w1.alloc (.cells #[.pointer none, .int .i64 0] 27)) w1.heap.size 0 none 0 none []) := Lib.hid ⟨bxAt_new (n := 0) ndAt_nil, new_below _ _, Nat.le_refl _, by simp⟩
    obtain ⟨T, hT⟩ : ∃ T, w1.heap.size = T := ⟨_, rfl⟩
    generalize w1.alloc (.cells #[.pointer none, .int .i64 0] 27) = w3 at S3 ⊢
    rw [hT] at S3 ⊢
    clear hT HT HG
    go_loopg [4] D.length (fun g i wr => ∃ (k : Nat) (q : Option Addr) (n : Nat) (o : Nd) (P : List Pr), k + g = D.length ∧ i = .int .i64 k ∧ Hid (CSt w1 wr T k q n o P))
    case atStart => exact ⟨0, _, _, _, _, by omega, rfl, S3⟩
    case round =>
      obtain ⟨k, q, n, o, P, hk, rfl, ST⟩ := hrel
      have hkL : k ≤ D.length := by omega
      clear S3
      by_cases hlt : k < D.length
      · obtain ⟨b, off, rfl, hb, hx⟩ := T1.out.2.at k hlt
        have hfs : D[k].f.size ≤ 100 := HF.out _ (List.getElem_mem hlt)
        have hP : P.length ≤ 110 := by have := ST.out.len; omega
        have hP2 : P.length + 1 ≤ k + 1 := by have := ST.out.len; omega
        generalize D[k] = p at hx hfs
        obtain ⟨dr, df, ds⟩ := p
        have HX0 : Hid (∀ W, Below w1.heap.size w1 W → W.cell? ⟨b, off + k * 3, none⟩ = some (.bool dr)) := Lib.hid fun W hW => (hW.cell (p := ⟨b, off + k * 3, none⟩) hb).trans (hx 0 _ rfl)
        have HX : Hid (∀ W, Below w1.heap.size w1 W → W.cell? ⟨b, off + k * 3 + 1, none⟩ = some (.string df) ∧ W.cell? ⟨b, off + k * 3 + 2, none⟩ = some (.int .i64 ds)) := Lib.hid fun W hW =>
          ⟨(hW.cell (p := ⟨b, off + k * 3 + 1, none⟩) hb).trans (hx 1 _ rfl), (hW.cell (p := ⟨b, off + k * 3 + 2, none⟩) hb).trans (hx 2 _ rfl)⟩
        have hlt2 : (k : Int) < (D.length : Int) := by omega
        have hbw : b < w1.heap.size := hb
        clear hx hb
        have c0 := ST.out.bx.box.at (o := 0) rfl
        have c1 := ST.out.bx.box.at (o := 1) rfl
        have hdrc := HX0.out wr ST.out.low
        have hdrc2 : (wr.alloc (.cells #[.pointer q, .int .i64 (n : Int)] 27)).cell? ⟨b, off + k * 3, none⟩ = some (.bool dr) := HX0.out _ (below_step ST.out.low (new_below _ _))
        dsimp only at *
        go_upto_region 10 with fail
        have hst0 : Two w1 (wr.alloc (.cells #[.pointer q, .int .i64 (n : Int)] 27)) T wr.heap.size k q n o P q n o P := ⟨ST.out.below (new_below _ _), bxAt_new ST.out.bx.at_, fun e => by have := ST.out.bx.box.lt; omega⟩
        have HS0 := Lib.hid hst0
        generalize wr.heap.size = Bw at *
        generalize wr.alloc (.cells #[.pointer q, .int .i64 (n : Int)] 27) = wa at *
        clear c0 c1 hdrc ST hst0
        cases dr with
        | true =>
          go_upto_region 11 with fail
          have hst : Two w1 wa.drew T Bw k q n o P q n o P := HS0.out.below (Below.refl _ _).drew
          clear hdrc2 HX0 HS0
          refine wp_region_noPanic ?_
          refine wp_region_held_drew (S := (fun w' => w'.cell? ⟨b, off + k * 3 + 1, none⟩ = some (.string df) ∧ w'.cell? ⟨b, off + k * 3 + 2, none⟩ = some (.int .i64 ds))) (by kernel_rfl) ?_ (fun hHeld => ?_)
          · exact HX.out _ hst.st.low
          refine wpAnyH_take (i := 1) (oi := ⟨some 25, _, _, _, _, _⟩) (v := ?_) rfl (by kernel_rfl) (by kernel_rfl) (by kernel_rfl) (fun _ _ _ h => h) (Or.inl ⟨by rfl, ?_⟩) (by assumption) ?_
          rotate_left
          · (intro w hSw; (try dsimp only at hSw); go_simp; try with_reducible rfl)
          try simp only [Act.put, List.setIfInBounds_toArray, List.set_cons_zero, List.set_cons_succ]
          refine wpAnyH_take (i := 2) (oi := ⟨some 26, _, _, _, _, _⟩) (v := ?_) rfl (by kernel_rfl) (by kernel_rfl) (by kernel_rfl) (fun _ _ _ h => h) (Or.inl ⟨by rfl, ?_⟩) (by assumption) ?_
          rotate_left
          · (intro w hSw; (try dsimp only at hSw); go_simp; try with_reducible rfl)
          try simp only [Act.put, List.setIfInBounds_toArray, List.set_cons_zero, List.set_cons_succ]
          refine wpAnyH_take (i := 3) (oi := ⟨some 27, _, _, _, _, _⟩) (v := ?_) rfl (by kernel_rfl) (by kernel_rfl) (by kernel_rfl) (fun _ _ _ h => h) (Or.inl ⟨by rfl, ?_⟩) (by assumption) ?_
          rotate_left
          · (intro w hSw; (try dsimp only at hSw); go_simp; try with_reducible rfl)
          try simp only [Act.put, List.setIfInBounds_toArray, List.set_cons_zero, List.set_cons_succ]
          refine wpAnyH_take (i := 4) (oi := ⟨some 28, _, _, _, _, _⟩) (v := ?_) rfl (by kernel_rfl) (by kernel_rfl) (by kernel_rfl) (fun _ _ _ h => h) (Or.inl ⟨by rfl, ?_⟩) (by assumption) ?_
          rotate_left
          · (intro w hSw; (try dsimp only at hSw); go_simp; try with_reducible rfl)
          try simp only [Act.put, List.setIfInBounds_toArray, List.set_cons_zero, List.set_cons_succ]
          refine wpAnyH_take (i := 5) (oi := ⟨some 29, _, _, _, _, _⟩) (v := ?_) rfl (by kernel_rfl) (by kernel_rfl) (by kernel_rfl) (fun _ _ _ h => h) (Or.inl ⟨by rfl, ?_⟩) (by assumption) ?_
          rotate_left
          · (intro w hSw; (try dsimp only at hSw); go_simp; try with_reducible rfl)
          try simp only [Act.put, List.setIfInBounds_toArray, List.set_cons_zero, List.set_cons_succ]
          refine wpAnyH_take (i := 6) (oi := ⟨some 30, _, _, _, _, _⟩) (v := ?_) rfl (by kernel_rfl) (by kernel_rfl) (by kernel_rfl) (fun _ _ _ h => h) (Or.inl ⟨by rfl, ?_⟩) (by assumption) ?_
          rotate_left
          · (intro w hSw; (try dsimp only at hSw); go_simp; try with_reducible rfl)
          try simp only [Act.put, List.setIfInBounds_toArray, List.set_cons_zero, List.set_cons_succ]
          refine wpAnyH_take (i := 7) (oi := ⟨some 31, _, _, _, _, _⟩) (v := ?_) rfl (by kernel_rfl) (by kernel_rfl) (by kernel_rfl) (fun _ _ _ h => h) (Or.inl ⟨by rfl, ?_⟩) (by assumption) ?_
          rotate_left
          · (intro w hSw; (try dsimp only at hSw); go_simp; try with_reducible rfl)
          try simp only [Act.put, List.setIfInBounds_toArray, List.set_cons_zero, List.set_cons_succ]
          refine wpAnyH_take (i := 8) (oi := ⟨some 32, _, _, _, _, _⟩) (v := ?_) rfl (by kernel_rfl) (by kernel_rfl) (by kernel_rfl) (fun _ _ _ h => h) (Or.inl ⟨by rfl, ?_⟩) (by assumption) ?_
          rotate_left
          · (intro w hSw; (try dsimp only at hSw); go_simp; try with_reducible rfl)
          try simp only [Act.put, List.setIfInBounds_toArray, List.set_cons_zero, List.set_cons_succ]
          refine wpAnyH_take (i := 9) (oi := ⟨some 33, _, _, _, _, _⟩) (v := ?_) rfl (by kernel_rfl) (by kernel_rfl) (by kernel_rfl) (fun _ _ _ h => h) (Or.inl ⟨by rfl, ?_⟩) (by assumption) ?_
          rotate_left
          · (intro w hSw; (try dsimp only at hSw); go_simp; try with_reducible rfl)
          try simp only [Act.put, List.setIfInBounds_toArray, List.set_cons_zero, List.set_cons_succ]
          refine wpAnyH_take (i := 10) (oi := ⟨some 34, _, _, _, _, _⟩) (v := ?_) rfl (by kernel_rfl) (by kernel_rfl) (by kernel_rfl) (fun _ _ _ h => h) (Or.inl ⟨by rfl, ?_⟩) (by assumption) ?_
          rotate_left
          · (intro w hSw; (try dsimp only at hSw); go_simp; try with_reducible rfl)
          try simp only [Act.put, List.setIfInBounds_toArray, List.set_cons_zero, List.set_cons_succ]
          refine wpAnyH_ready (rs := [0]) (by kernel_rfl) (by simp) ?_
          refine AllReadyH.cons (o := ⟨some 24, _, _, _, _, _⟩) rfl (fun K hK => ?_) AllReadyH.nil
          have cX := hst.st.bx.box.at (o := 0) rfl
          have cY := hst.st.bx.box.at (o := 1) rfl
          go_simp
          clear cX cY
          refine hK.out _ _ ?_ (fun hHeldX => ?_)
          · exact HX.out _ hst.st.low
          clear hK K hHeld
          rename _ => hHeld
          try simp only [Act.put, List.setIfInBounds_toArray, List.set_cons_zero, List.set_cons_succ]
          refine wpAnyH_ready (rs := [11]) (by kernel_rfl) (by simp) ?_
          refine AllReadyH.cons (o := ⟨some 35, _, _, _, _, _⟩) rfl (fun K hK => ?_) AllReadyH.nil
          go_simp
          refine (hst.st.bx.at_.drop hst.st.fresh hP df ds).mono ?_
          rintro e wx ⟨q', n', o', rfl, hnd, hcp, hBx⟩
          replace hst := hst.below hBx
          have HND := Lib.hid hnd
          have HCP := Lib.hid hcp
          clear hnd hcp
          go_wp2_with fail
          refine hK.out _ _ ?_ (fun hHeldX => ?_)
          · exact HX.out _ hst.st.low
          clear hK K hHeld
          rename _ => hHeld
          try simp only [Act.put, List.setIfInBounds_toArray, List.set_cons_zero, List.set_cons_succ]
          refine wpAnyH_take (i := 12) (oi := ⟨some 23, _, _, _, _, _⟩) (v := ?_) rfl (by kernel_rfl) (by kernel_rfl) (by kernel_rfl) (fun _ _ _ h => h) (Or.inl ⟨by rfl, ?_⟩) (by assumption) ?_
          rotate_left
          · (intro w hSw; (try dsimp only at hSw); go_simp; try with_reducible rfl)
          try simp only [Act.put, List.setIfInBounds_toArray, List.set_cons_zero, List.set_cons_succ]
          refine wpAnyH_take (i := 13) (oi := ⟨some 36, _, _, _, _, _⟩) (v := ?_) rfl (by kernel_rfl) (by kernel_rfl) (by kernel_rfl) (fun _ _ _ h => h) (Or.inl ⟨by rfl, ?_⟩) (by assumption) ?_
          rotate_left
          · (intro w hSw; (try dsimp only at hSw); go_simp; try with_reducible rfl)
          try simp only [Act.put, List.setIfInBounds_toArray, List.set_cons_zero, List.set_cons_succ]
          refine wpAnyH_take (i := 14) (oi := ⟨some 37, _, _, _, _, _⟩) (v := ?_) rfl (by kernel_rfl) (by kernel_rfl) (by kernel_rfl) (fun _ _ _ h => h) (Or.inl ⟨by rfl, ?_⟩) (by assumption) ?_
          rotate_left
          · (intro w hSw; (try dsimp only at hSw); go_simp; try with_reducible rfl)
          try simp only [Act.put, List.setIfInBounds_toArray, List.set_cons_zero, List.set_cons_succ]
          refine wpAnyH_ready (rs := [15]) (by kernel_rfl) (by simp) ?_
          refine AllReadyH.cons (o := ⟨none, _, _, _, _, _⟩) rfl (fun K hK => ?_) AllReadyH.nil
          have cX := hst.st.bx.box.at (o := 0) rfl
          have cY := hst.st.bx.box.at (o := 1) rfl
          have fX := hst.st.bx.box.frozen 0
          have fY := hst.st.bx.box.frozen 1
          go_simp
          clear cX cY fX fY
          refine hK.out _ _ ?_ (fun hHeldX => ?_)
          · exact HX.out _ ((hst.st.low.setCell (p := ⟨T, 0, none⟩) hst.st.lt _).setCell (p := ⟨T, 1, none⟩) hst.st.lt _)
          clear hK K hHeld
          rename _ => hHeld
          try simp only [Act.put, List.setIfInBounds_toArray, List.set_cons_zero, List.set_cons_succ]
          refine wpAnyH_done (by kernel_rfl) ?_ _
          refine NoPanic.normal ?_
          have hE := hst.put (k := k) HND.out (Nat.le_trans (dropZ_len _ _ _) hP2)
          clear hst hHeld HND
          have HE := Lib.hid hE
          clear hE
          generalize hPP : dropZ P df.data.toList ds = P' at *
          generalize (World.setCell (World.setCell _ _ _) _ _) = W5 at *
          have hP3 : P'.length ≤ 110 := by have := HE.out.st.len; omega
          have c0 := HE.out.st.bx.box.at (o := 0) rfl
          have c1 := HE.out.st.bx.box.at (o := 1) rfl
          have d0 := HE.out.was.box.at (o := 0) rfl
          have d1 := HE.out.was.box.at (o := 1) rfl
          clear hPP
          go_wp2_with fail
          refine (HE.out.st.bx.at_.copied HE.out.was.at_ hP3 hP).mono ?_
          rintro e w6 ⟨rfl, hB6⟩
          have HE6 := Lib.hid (HE.out.below hB6)
          clear hB6 HE c0 c1 d0 d1
          obtain ⟨c, hc⟩ : ∃ c, ndC o' o = c := ⟨_, rfl⟩
          rw [hc] at HCP ⊢
          have hx1 := (HX.out _ HE6.out.st.low).1
          have hc0 : ¬ ((c : Int) < 0) := by omega
          clear hc
          go_wp2_with fail
          refine (ref_Levels_cells df w6 (by omega)).mono ?_
          rintro e w7 ⟨g, lc, rfl, hg1, hg2, hg3, hB7⟩
          have HE7 := Lib.hid (HE6.out.below hB7)
          have hlb : (lv df.data.toList).length ≤ 1000 := by
            have h1 := lv_length df.data.toList
            have h2 := cntZ_le df.data.toList 47
            have h3 := Lib.size_eq df
            unfold cntZ at h2
            omega
          have hcl : ¬ (((lv df.data.toList).length : Int) + 1 < (c : Int)) := by have := HCP.out; omega
          have c0 := HE7.out.st.bx.box.at (o := 0) rfl
          have c1 := HE7.out.st.bx.box.at (o := 1) rfl
          clear hg1 hg2 hg3 hB7 HE6 hx1 HCP
          generalize (lv df.data.toList).length = ll at *
          go_wp2_with fail
          refine (HE7.out.st.bx.at_.copied HE7.out.st.bx.at_ hP3 hP3).mono ?_
          rintro e w8 ⟨rfl, hB8⟩
          have HE8 := Lib.hid (HE7.out.below hB8)
          rw [ndC_self]
          clear hB8 HE7 c0 c1
          go_wp2_with fail
          go_roundg (gk - 1)
          case measure => omega
          case rel => exact ⟨k + 1, _, _, _, _, by omega, by go_num, Lib.hid HE8.out.st⟩
        | false =>
          go_upto_region 12 with fail
          have hst : Two w1 wa.drew T Bw k q n o P q n o P := HS0.out.below (Below.refl _ _).drew
          clear hdrc2 HX0 HS0
          refine wp_region_noPanic ?_
          refine wp_region_held_drew (S := (fun w' => w'.cell? ⟨b, off + k * 3 + 1, none⟩ = some (.string df) ∧ w'.cell? ⟨b, off + k * 3 + 2, none⟩ = some (.int .i64 ds))) (by kernel_rfl) ?_ (fun hHeld => ?_)
          · exact HX.out _ hst.st.low
          refine wpAnyH_take (i := 1) (oi := ⟨some 40, _, _, _, _, _⟩) (v := ?_) rfl (by kernel_rfl) (by kernel_rfl) (by kernel_rfl) (fun _ _ _ h => h) (Or.inl ⟨by rfl, ?_⟩) (by assumption) ?_
          rotate_left
          · (intro w hSw; (try dsimp only at hSw); go_simp; try with_reducible rfl)
          try simp only [Act.put, List.setIfInBounds_toArray, List.set_cons_zero, List.set_cons_succ]
          refine wpAnyH_take (i := 2) (oi := ⟨some 41, _, _, _, _, _⟩) (v := ?_) rfl (by kernel_rfl) (by kernel_rfl) (by kernel_rfl) (fun _ _ _ h => h) (Or.inl ⟨by rfl, ?_⟩) (by assumption) ?_
          rotate_left
          · (intro w hSw; (try dsimp only at hSw); go_simp; try with_reducible rfl)
          try simp only [Act.put, List.setIfInBounds_toArray, List.set_cons_zero, List.set_cons_succ]
          refine wpAnyH_take (i := 3) (oi := ⟨some 42, _, _, _, _, _⟩) (v := ?_) rfl (by kernel_rfl) (by kernel_rfl) (by kernel_rfl) (fun _ _ _ h => h) (Or.inl ⟨by rfl, ?_⟩) (by assumption) ?_
          rotate_left
          · (intro w hSw; (try dsimp only at hSw); go_simp; try with_reducible rfl)
          try simp only [Act.put, List.setIfInBounds_toArray, List.set_cons_zero, List.set_cons_succ]
          refine wpAnyH_take (i := 4) (oi := ⟨some 43, _, _, _, _, _⟩) (v := ?_) rfl (by kernel_rfl) (by kernel_rfl) (by kernel_rfl) (fun _ _ _ h => h) (Or.inl ⟨by rfl, ?_⟩) (by assumption) ?_
          rotate_left
          · (intro w hSw; (try dsimp only at hSw); go_simp; try with_reducible rfl)
          try simp only [Act.put, List.setIfInBounds_toArray, List.set_cons_zero, List.set_cons_succ]
          refine wpAnyH_take (i := 5) (oi := ⟨some 44, _, _, _, _, _⟩) (v := ?_) rfl (by kernel_rfl) (by kernel_rfl) (by kernel_rfl) (fun _ _ _ h => h) (Or.inl ⟨by rfl, ?_⟩) (by assumption) ?_
          rotate_left
          · (intro w hSw; (try dsimp only at hSw); go_simp; try with_reducible rfl)
          try simp only [Act.put, List.setIfInBounds_toArray, List.set_cons_zero, List.set_cons_succ]
          refine wpAnyH_take (i := 6) (oi := ⟨some 45, _, _, _, _, _⟩) (v := ?_) rfl (by kernel_rfl) (by kernel_rfl) (by kernel_rfl) (fun _ _ _ h => h) (Or.inl ⟨by rfl, ?_⟩) (by assumption) ?_
          rotate_left
          · (intro w hSw; (try dsimp only at hSw); go_simp; try with_reducible rfl)
          try simp only [Act.put, List.setIfInBounds_toArray, List.set_cons_zero, List.set_cons_succ]
          refine wpAnyH_take (i := 7) (oi := ⟨some 46, _, _, _, _, _⟩) (v := ?_) rfl (by kernel_rfl) (by kernel_rfl) (by kernel_rfl) (fun _ _ _ h => h) (Or.inl ⟨by rfl, ?_⟩) (by assumption) ?_
          rotate_left
          · (intro w hSw; (try dsimp only at hSw); go_simp; try with_reducible rfl)
          try simp only [Act.put, List.setIfInBounds_toArray, List.set_cons_zero, List.set_cons_succ]
          refine wpAnyH_take (i := 8) (oi := ⟨some 47, _, _, _, _, _⟩) (v := ?_) rfl (by kernel_rfl) (by kernel_rfl) (by kernel_rfl) (fun _ _ _ h => h) (Or.inl ⟨by rfl, ?_⟩) (by assumption) ?_
          rotate_left
          · (intro w hSw; (try dsimp only at hSw); go_simp; try with_reducible rfl)
          try simp only [Act.put, List.setIfInBounds_toArray, List.set_cons_zero, List.set_cons_succ]
          refine wpAnyH_take (i := 9) (oi := ⟨some 48, _, _, _, _, _⟩) (v := ?_) rfl (by kernel_rfl) (by kernel_rfl) (by kernel_rfl) (fun _ _ _ h => h) (Or.inl ⟨by rfl, ?_⟩) (by assumption) ?_
          rotate_left
          · (intro w hSw; (try dsimp only at hSw); go_simp; try with_reducible rfl)
          try simp only [Act.put, List.setIfInBounds_toArray, List.set_cons_zero, List.set_cons_succ]
          refine wpAnyH_take (i := 10) (oi := ⟨some 49, _, _, _, _, _⟩) (v := ?_) rfl (by kernel_rfl) (by kernel_rfl) (by kernel_rfl) (fun _ _ _ h => h) (Or.inl ⟨by rfl, ?_⟩) (by assumption) ?_
          rotate_left
          · (intro w hSw; (try dsimp only at hSw); go_simp; try with_reducible rfl)
          try simp only [Act.put, List.setIfInBounds_toArray, List.set_cons_zero, List.set_cons_succ]
          refine wpAnyH_ready (rs := [0]) (by kernel_rfl) (by simp) ?_
          refine AllReadyH.cons (o := ⟨some 39, _, _, _, _, _⟩) rfl (fun K hK => ?_) AllReadyH.nil
          have cX := hst.st.bx.box.at (o := 0) rfl
          have cY := hst.st.bx.box.at (o := 1) rfl
          go_simp
          clear cX cY
          refine hK.out _ _ ?_ (fun hHeldX => ?_)
          · exact HX.out _ hst.st.low
          clear hK K hHeld
          rename _ => hHeld
          try simp only [Act.put, List.setIfInBounds_toArray, List.set_cons_zero, List.set_cons_succ]
          refine wpAnyH_ready (rs := [11]) (by kernel_rfl) (by simp) ?_
          refine AllReadyH.cons (o := ⟨some 50, _, _, _, _, _⟩) rfl (fun K hK => ?_) AllReadyH.nil
          go_simp
          refine (hst.st.bx.at_.add hst.st.fresh hP df ds).mono ?_
          rintro e wx ⟨q', n', o', rfl, hnd, hcp, hBx⟩
          replace hst := hst.below hBx
          have HND := Lib.hid hnd
          have HCP := Lib.hid hcp
          clear hnd hcp
          go_wp2_with fail
          refine hK.out _ _ ?_ (fun hHeldX => ?_)
          · exact HX.out _ hst.st.low
          clear hK K hHeld
          rename _ => hHeld
          try simp only [Act.put, List.setIfInBounds_toArray, List.set_cons_zero, List.set_cons_succ]
          refine wpAnyH_take (i := 12) (oi := ⟨some 38, _, _, _, _, _⟩) (v := ?_) rfl (by kernel_rfl) (by kernel_rfl) (by kernel_rfl) (fun _ _ _ h => h) (Or.inl ⟨by rfl, ?_⟩) (by assumption) ?_
          rotate_left
          · (intro w hSw; (try dsimp only at hSw); go_simp; try with_reducible rfl)
          try simp only [Act.put, List.setIfInBounds_toArray, List.set_cons_zero, List.set_cons_succ]
          refine wpAnyH_take (i := 13) (oi := ⟨some 51, _, _, _, _, _⟩) (v := ?_) rfl (by kernel_rfl) (by kernel_rfl) (by kernel_rfl) (fun _ _ _ h => h) (Or.inl ⟨by rfl, ?_⟩) (by assumption) ?_
          rotate_left
          · (intro w hSw; (try dsimp only at hSw); go_simp; try with_reducible rfl)
          try simp only [Act.put, List.setIfInBounds_toArray, List.set_cons_zero, List.set_cons_succ]
          refine wpAnyH_take (i := 14) (oi := ⟨some 52, _, _, _, _, _⟩) (v := ?_) rfl (by kernel_rfl) (by kernel_rfl) (by kernel_rfl) (fun _ _ _ h => h) (Or.inl ⟨by rfl, ?_⟩) (by assumption) ?_
          rotate_left
          · (intro w hSw; (try dsimp only at hSw); go_simp; try with_reducible rfl)
          try simp only [Act.put, List.setIfInBounds_toArray, List.set_cons_zero, List.set_cons_succ]
          refine wpAnyH_ready (rs := [15]) (by kernel_rfl) (by simp) ?_
          refine AllReadyH.cons (o := ⟨none, _, _, _, _, _⟩) rfl (fun K hK => ?_) AllReadyH.nil
          have cX := hst.st.bx.box.at (o := 0) rfl
          have cY := hst.st.bx.box.at (o := 1) rfl
          have fX := hst.st.bx.box.frozen 0
          have fY := hst.st.bx.box.frozen 1
          go_simp
          clear cX cY fX fY
          refine hK.out _ _ ?_ (fun hHeldX => ?_)
          · exact HX.out _ ((hst.st.low.setCell (p := ⟨T, 0, none⟩) hst.st.lt _).setCell (p := ⟨T, 1, none⟩) hst.st.lt _)
          clear hK K hHeld
          rename _ => hHeld
          try simp only [Act.put, List.setIfInBounds_toArray, List.set_cons_zero, List.set_cons_succ]
          refine wpAnyH_done (by kernel_rfl) ?_ _
          refine NoPanic.normal ?_
          have hE := hst.put (k := k) HND.out (Nat.le_trans (addZ_len _ _ _) hP2)
          clear hst hHeld HND
          have HE := Lib.hid hE
          clear hE
          generalize hPP : addZ P df.data.toList ds = P' at *
          generalize (World.setCell (World.setCell _ _ _) _ _) = W5 at *
          have hP3 : P'.length ≤ 110 := by have := HE.out.st.len; omega
          have c0 := HE.out.st.bx.box.at (o := 0) rfl
          have c1 := HE.out.st.bx.box.at (o := 1) rfl
          have d0 := HE.out.was.box.at (o := 0) rfl
          have d1 := HE.out.was.box.at (o := 1) rfl
          clear hPP
          go_wp2_with fail
          refine (HE.out.st.bx.at_.copied HE.out.was.at_ hP3 hP).mono ?_
          rintro e w6 ⟨rfl, hB6⟩
          have HE6 := Lib.hid (HE.out.below hB6)
          clear hB6 HE c0 c1 d0 d1
          obtain ⟨c, hc⟩ : ∃ c, ndC o' o = c := ⟨_, rfl⟩
          rw [hc] at HCP ⊢
          have hx1 := (HX.out _ HE6.out.st.low).1
          have hc0 : ¬ ((c : Int) < 0) := by omega
          clear hc
          go_wp2_with fail
          refine (ref_Levels_cells df w6 (by omega)).mono ?_
          rintro e w7 ⟨g, lc, rfl, hg1, hg2, hg3, hB7⟩
          have HE7 := Lib.hid (HE6.out.below hB7)
          have hlb : (lv df.data.toList).length ≤ 1000 := by
            have h1 := lv_length df.data.toList
            have h2 := cntZ_le df.data.toList 47
            have h3 := Lib.size_eq df
            unfold cntZ at h2
            omega
          have hcl : ¬ (((lv df.data.toList).length : Int) + 1 < (c : Int)) := by have := HCP.out; omega
          have c0 := HE7.out.st.bx.box.at (o := 0) rfl
          have c1 := HE7.out.st.bx.box.at (o := 1) rfl
          clear hg1 hg2 hg3 hB7 HE6 hx1 HCP
          generalize (lv df.data.toList).length = ll at *
          go_wp2_with fail
          refine (HE7.out.st.bx.at_.copied HE7.out.st.bx.at_ hP3 hP3).mono ?_
          rintro e w8 ⟨rfl, hB8⟩
          have HE8 := Lib.hid (HE7.out.below hB8)
          rw [ndC_self]
          clear hB8 HE7 c0 c1
          go_wp2_with fail
          go_roundg (gk - 1)
          case measure => omega
          case rel => exact ⟨k + 1, _, _, _, _, by omega, by go_num, Lib.hid HE8.out.st⟩
      · obtain rfl : k = D.length := by omega
        have B9 := Lib.hid (B1.out.trans (ST.out.low.mono B1.out.size))
        go_wp2
        go_ret
        exact ⟨rfl, B9.out⟩
end Go.Proofs.Ytmfejpbijllojaa
