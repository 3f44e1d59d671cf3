/- Layer 14 (package walk): the iterator of Pairs: a loop with a stack. Made by tools/gen_pairs14.py. -/
import Derived.Test.YtabgedmocdjkcaaPairsM14
import Derived.Deep.RegionHeld3
namespace Go.Proofs.Ytabgedmocdjkcaa
open Go.RowKit Go.Shelf

set_option maxRecDepth 100000 in
set_option maxHeartbeats 4000000 in
theorem pairs_seqO {n₀ M : Nat} {o : Nd} {W0 : World} (Bn : Nat) (ho : NodeIs (fun k => n₀ ≤ k) W0 o) (hn0 : n₀ ≤ W0.heap.size) (hcl : (ndF o).cln) (hM : (ndF o).sz ≤ M) (hM2 : M ≤ 100000) (hPr : (prs o).length ≤ 100000) (htx : ∀ x ∈ prs o, x.1.length ≤ 1000000) (hB : Boxed W0 Bn 27 (ndP o)) :
    SeqO Try.prog 23 #[.pointer (some ⟨Bn, 0, none⟩)] encPr (fun k => n₀ ≤ k) (fun xs => xs = prs o) (fun pre => pre <+: prs o) W0 := by
  intro l J Jx C W hb hA hw hJ hJx hY h0
  show Calls Try.prog 23 #[.func (.yield l) #[] #[], .pointer (some ⟨Bn, 0, none⟩)] W _
  have hC : ∀ k, C k → n₀ ≤ k := fun k hk => (hA k hk).elim id fun h => by omega
  have hz := hb.size
  have hoW : NodeIs (fun k => n₀ ≤ k) W o := node_below ho (hb.mono hn0) hb.size
  have hnW : n₀ ≤ W.heap.size := Nat.le_trans hn0 hz
  have cB := (boxed_below hB hb hB.lt).cell
  obtain ⟨R, hR⟩ : ∃ R : Ending → World → Prop, R = fun e W' => (∃ v, e = .returned v) ∧ ∃ C', Grow C C' W ∧ Only C W W' ∧ Wn C' W' ∧ ((∃ xs, xs = prs o ∧ J C' xs W') ∨ (∃ pre, pre <+: prs o ∧ Jx C' pre W')) := ⟨_, rfl⟩
  rw [← hR]
  have HRd : Hid (∀ v C' W', Grow C C' W → Only C W W' → Wn C' W' → J C' (prs o) W' → R (.returned v) W') := Lib.hid fun v C' W' h1 h2 h3 h4 => by rw [hR]; exact ⟨⟨_, rfl⟩, C', h1, h2, h3, .inl ⟨_, rfl, h4⟩⟩
  have HRs : Hid (∀ v C' pre W', Grow C C' W → Only C W W' → Wn C' W' → pre <+: prs o → Jx C' pre W' → R (.returned v) W') := Lib.hid fun v C' pre W' h1 h2 h3 h4 h5 => by rw [hR]; exact ⟨⟨_, rfl⟩, C', h1, h2, h3, .inr ⟨pre, h4, h5⟩⟩
  have HLow : Hid (∀ W', Only C W W' → Below n₀ W W') := Lib.hid fun W' h => h.below hnW fun k hk hc => by have := hC k hc; omega
  have HSp : Hid (∀ (y : Nd) (a : Nat) W', NodeIs (fun k => n₀ ≤ k) W y → (ndF y).cln → (ndF y).sz ≤ 100000 → Only C W W' → Calls Try.prog 24 #[ndP y, .int .i64 (a : Int)] W' fun e w' => ∃ v, e = .returned v ∧ w'.ownsRow W'.heap.size 50 3 v (kidsOf a (ndF y)).reverse.length ((kidsOf a (ndF y)).reverse.flatMap spotV) ∧ Below W'.heap.size W' w') := Lib.hid fun y a W' hy h1 h2 h3 =>
    walk_spots a (node_below hy (HLow.out _ h3) h3.size) (Nat.le_trans hnW h3.size) h1 h2
  have HO := Lib.hid hoW
  have HF : Hid ((ndF o).cln ∧ (ndF o).sz ≤ M ∧ (prs o).length ≤ 100000 ∧ ∀ x ∈ prs o, x.1.length ≤ 1000000) := Lib.hid ⟨hcl, hM, hPr, htx⟩
  have HY := Lib.hid hY
  have HJ := Lib.hid hJ
  have HJx := Lib.hid hJx
  have H0 := Lib.hid h0
  have HCn := Lib.hid hC
  have HW := Lib.hid hw
  have Hn := Lib.hid hnW
  have hs0 := HSp.out o 0 W hoW hcl (by omega) (Only.refl _ _)
  have hp : ∃ q, ndP o = .pointer q := by cases o <;> exact ⟨_, rfl⟩
  clear hY hJ hJx h0 hC hw ho hcl hM hPr htx hB hb hA hoW hR hn0 hz hnW
  obtain ⟨q, hq⟩ := hp
  rw [hq] at hs0 cB
  clear hq
  go_enter Try.func23, Try.ntmps23
  go_wp2_with fail
  refine hs0.mono ?_
  rintro e W1 ⟨v1, rfl, hrow1, hB1⟩
  have HST : Hid (PMem J C W n₀ C [] [] (kidsOf 0 (ndF o)) (.slice none 0 0) v1 W1) := Lib.hid
    { onl := Only.of_below hB1 C, gr := Grow.refl _ _, wn := HW.out.le hB1.size, j := HJ.out _ _ _ _ H0.out HW.out (Only.of_below hB1 _)
      rl := World.ownsRow_nil _ _ _ _
      rs := by rw [← List.length_reverse]; exact hrow1
      nl := fun k hk => by simp [Value.ownBlock] at hk
      ns := fun k hk hc => by have := (own_lt hrow1 hk).1; have := HW.out k hc; omega
      nd := kids_nd 0 HO.out.kids }
  have HAL : Hid (PAll M (prs o) [] [] (kidsOf 0 (ndF o))) := Lib.hid ⟨by rw [List.nil_append, spPr_kids]; rfl, stOk_first HF.out.2.1 HF.out.1, by rw [stN_kids]; exact HF.out.2.1⟩
  obtain ⟨a1, c1, rfl⟩ := own_form hrow1
  rw [List.length_reverse] at HST ⊢
  clear hrow1 hB1 hs0
  go_wp2_with fail
  go_loopg [3, 4, 5, 6] (stN (kidsOf 0 (ndF o))) (fun g lv lf _ _ wr => ∃ (C1 : Nat → Prop) (pre : List Pr) (lvs : List Key) (st : List Spo) (a c a' c' : _), stN st ≤ g ∧ lv = .slice a lvs.length c ∧ lf = .slice a' st.length c' ∧ Hid (PAll M (prs o) pre lvs st) ∧ Hid (PMem J C W n₀ C1 pre lvs st lv lf wr))
  case atStart => exact ⟨_, _, _, _, _, _, _, _, Nat.le_refl _, rfl, rfl, HAL, HST⟩
  case round =>
    obtain ⟨C1, pre, lvs, st, a, c, a', c', hg, rfl, rfl, AL, ST⟩ := hrel
    clear HST cB HAL
    cases st with
    | nil =>
      go_wp2
      go_end0
      have h := AL.out.all
      rw [show spPr lvs [] = [] from rfl, List.append_nil] at h
      have hj := ST.out.j
      rw [h] at hj
      exact HRd.out _ _ _ ST.out.gr ST.out.onl ST.out.wn hj
    | cons x s =>
      obtain ⟨xa, xk, xb, xL, xF⟩ := x
      obtain ⟨g, cap, hv, hglt, hcap, hcell⟩ := spots_at ST.out.rs
      cases hv
      have q0 : wr.cell? ⟨g, s.length * 3, none⟩ = some (.int .i64 (xa : Int)) := hcell 0 _ rfl
      have q1 : wr.cell? ⟨g, s.length * 3 + 1, none⟩ = some (.string ⟨xk.toArray⟩) := hcell 1 _ rfl
      have q2 : wr.cell? ⟨g, s.length * 3 + 2, none⟩ = some (.pointer (some ⟨xb, 0, none⟩)) := hcell 2 _ rfl
      have hsl : s.length ≤ 100000 := by have h1 := stN_len ((xa, xk, xb, xL, xF) :: s); rw [List.length_cons] at h1; have := AL.out.big; omega
      clear hcell
      go_upto_region 5 with fail
      obtain ⟨W4, hW4⟩ : ∃ W4, W4 = wr.alloc (.cells #[.int .i64 (xa : Int), .string ⟨xk.toArray⟩, .pointer (some ⟨xb, 0, none⟩)] 50) := ⟨_, rfl⟩
      have hBX : Blk 50 W4 wr.heap.size [.int .i64 (xa : Int), .string ⟨xk.toArray⟩, .pointer (some ⟨xb, 0, none⟩)] := by rw [hW4]; exact Blk.new
      have ST4 := Lib.hid (ST.out.below (Wy := W4) HJ.out (by rw [hW4]; exact new_below _ _))
      have hNX : Hid (∀ k, C1 k → k ≠ wr.heap.size) := Lib.hid fun k hk e => by have := ST.out.wn k hk; omega
      have hvx : Hid (∀ k, (Value.slice a lvs.length c).ownBlock = some k → k ≠ wr.heap.size) := Lib.hid fun k hk e => by have := (own_lt ST.out.rl hk).2; omega
      have hsx : g ≠ wr.heap.size := fun e => by omega
      have hWX : W.heap.size ≤ wr.heap.size := ST.out.onl.size
      rw [← hW4]
      have hle : xa ≤ lvs.length := AL.out.ok.le (xa, xk, xb, xL, xF) (List.mem_cons_self ..)
      have hdp : xa + 1 + xF.sz ≤ M := AL.out.ok.deep (xa, xk, xb, xL, xF) (List.mem_cons_self ..)
      have hrl : (W4.drew).ownsRow W.heap.size 9 1 (.slice a xa c) xa ((lvs.map keyV).take (xa * 1)) := own_take ST4.out.rl hle
      have hxc : xa ≤ c := Nat.le_trans hle (own_texts ST.out.rl).2.2
      clear q0 q1 q2 hglt ST hW4
      generalize wr.heap.size = NB at *
      obtain ⟨i0, hi0, hz0, hz1, hz2⟩ := info_parts infoStr
      have HRL := Lib.hid hrl
      have HBX := Lib.hid hBX
      have cx0 := hBX.at (o := 0) rfl
      have cx1 := hBX.at (o := 1) rfl
      have hblt := hBX.lt
      clear hrl hBX
      obtain ⟨q, hq⟩ : ∃ q, q = lvs.take xa ++ [xk] := ⟨_, rfl⟩
      have hql : q.length = xa + 1 := by rw [hq, List.length_append, List.length_take]; simp; omega
      have hqk : q.map keyV = (lvs.map keyV).take (xa * 1) ++ [.string ⟨xk.toArray⟩] := by rw [hq, List.map_append, List.map_take, Nat.mul_one]; rfl
      have HQ := Lib.hid hqk
      have AL2 := AL.out.step
      have ALP := AL.out.part
      dsimp only at AL2 ALP
      rw [← hq] at AL2 ALP
      have HA2 := Lib.hid AL2
      have HAP := Lib.hid ALP
      clear hqk AL2 ALP hq
      have HOW : Hid ((Value.slice a xa c).ownBlock = (Value.slice a lvs.length c).ownBlock) := Lib.hid (by cases a <;> rfl)
      go_cut [3] from 19 to 26 (fun v wx => ∃ g' cap', v = .slice (some ⟨g', 0, none⟩) (xa + 1) cap' ∧ Hid (PMem J C W n₀ C1 pre q ((xa, xk, xb, xL, xF) :: s) (.slice (some ⟨g', 0, none⟩) (xa + 1) cap') (.slice (some ⟨g, 0, none⟩) (s.length + 1) c') wx) ∧ Hid (Blk 50 wx NB [.int .i64 (xa : Int), .string ⟨xk.toArray⟩, .pointer (some ⟨xb, 0, none⟩)]))
      case first =>
        go_region_law (refine step_append_lies _ rfl (.tmp 22) (.tmp 25) 22 rfl W.heap.size 9 i0 (.string ⟨#[]⟩) 1 16 Try.underlying22 hi0 hz0 hz1 hz2 rfl (by decide) _ _ _ rfl (HRL.out.alloc _) ⟨W4.heap.size, 0, none⟩ 1 1 [.string ⟨xk.toArray⟩] rfl rfl (World.news_of_block (Blk.new (l := [.string ⟨xk.toArray⟩]))) (by simp [Value.oneCell']) (by decide) (by simp only [maxLen]; omega) (by omega) (by simp; omega) (W4.heap.size + 1) (by simp) ?_; intro g' cap' W5 hown hgrow hlie hlt5)
        all_goals
          go_wp2_with fail
          go_meet
          case rel =>
            have oA : Only (fun k => (Value.slice a lvs.length c).ownBlock = some k) W4 W5 := (((Only.refl (fun k => (Value.slice a lvs.length c).ownBlock = some k) W4).drewN 1).alloc _).trans (by have := grown_only hgrow; rw [← HOW.out]; exact this)
            refine ⟨g', cap', rfl, Lib.hid (ST4.out.level HJ.out oA ?_ ?_), Lib.hid (HBX.out.only oA fun e => hvx.out _ e rfl)⟩
            · rw [hql, HQ.out]; exact hown
            · rintro k hk
              have : g' = k := by simpa [Value.ownBlock] using hk
              subst this
              rcases hlie with h | h
              · exact .inl (by rw [← HOW.out]; exact h)
              · exact .inr (by omega)
      case rest =>
        obtain ⟨g', cap', rfl, ST5, HB5⟩ := hcut
        clear HRL HOW hvx hi0 hz0 hz1 hz2 cx0 cx1 hblt HQ HBX
        have hxl : xL.length ≤ 100000 := by
          have h1 : (pre ++ ndPr q xL).length ≤ (prs o).length := HAP.out.length_le
          rw [List.length_append, ndPr, List.length_map] at h1
          have h2 := HF.out.2.2.1
          omega
        have hT5 := (own_texts (by have := ST5.out.rl; rw [hql] at this; exact this)).1
        have hcc := (own_texts (by have := ST5.out.rl; rw [hql] at this; exact this)).2.2
        have hnd : NodeIs (fun k => n₀ ≤ k) W (some (xb, xL, xF)) := ST5.out.nd _ (List.mem_cons_self ..)
        have htell := walk_tell (l := l) (J := J) (Jx := Jx) (q := q) (o := some (xb, xL, xF)) (pre0 := pre) (by intro e; rw [e] at hql; simp at hql) hT5 (by rw [hql]; exact hcc) (by omega) (node_below hnd (HLow.out _ ST5.out.onl) ST5.out.onl.size) (Nat.le_trans Hn.out ST5.out.onl.size)
          (fun k hk => (ST5.out.gr k hk).elim (HCn.out k) fun h => Nat.le_trans Hn.out h) ST5.out.wn HJ.out HJx.out hxl
          (fun hne => by
            obtain ⟨i, hi⟩ : ∃ i, i ∈ xL := List.exists_mem_of_ne_nil _ hne
            exact HF.out.2.2.2 (joinZ q, i) (HAP.out.subset (List.mem_append_right _ (List.mem_map.2 ⟨i, hi, rfl⟩)))) ST5.out.j
          (fun C2 p y W2 hp hj hg2 ho2 hw2 => HY.out C2 p y W2 (hp.trans HAP.out) hj (ST5.out.gr.trans hg2 ST5.out.onl.size) (ST5.out.onl.grow ho2 ST5.out.gr) hw2)
        rw [hql] at htell
        have HTL := Lib.hid htell
        have c50 := HB5.out.at (o := 0) rfl
        have c52 := HB5.out.at (o := 2) rfl
        have hndK := Lib.hid hnd
        clear hT5 hcc hnd htell
        go_wp2_with fail
        refine HTL.out.mono ?_
        rintro e W6 ⟨b, C2, rfl, hg2, ho2, hw2, ⟨rfl, hj2⟩ | ⟨rfl, z, hz, hj2⟩⟩
        · have ST6 := Lib.hid (ST5.out.told hg2 ho2 hw2 hj2)
          have HB6 := Lib.hid (HB5.out.only ho2 fun h => hNX.out _ h rfl)
          clear hg2 ho2 hw2 hj2 c50 c52 HTL ST5 HB5
          have c62 := HB6.out.at (o := 2) rfl
          have hs7 : ∀ W', Only C W W' → Calls Try.prog 24 #[.pointer (some ⟨xb, 0, none⟩), .int .i64 ((xa : Int) + 1)] W' fun e w' => ∃ v, e = .returned v ∧ w'.ownsRow W'.heap.size 50 3 v (kidsOf (xa + 1) xF).reverse.length ((kidsOf (xa + 1) xF).reverse.flatMap spotV) ∧ Below W'.heap.size W' w' := fun W' h =>
            HSp.out (some (xb, xL, xF)) (xa + 1) W' hndK.out (AL.out.ok.cln _ (List.mem_cons_self ..)) (by show xF.sz ≤ 100000; omega) h
          have HS7 := Lib.hid hs7
          clear hs7
          go_upto_region 7 with fail
          have hlf := own_take (m := s.length) ST6.out.rs (Nat.le_succ _)
          rw [flat_pre] at hlf
          have hrow : ∀ w, Below W6.heap.size W6 w → w.ownsRow W.heap.size 50 3 (.slice (some ⟨g, 0, none⟩) s.length c') s.reverse.length (s.reverse.flatMap spotV) := fun w hb => by
            rw [List.length_reverse]
            exact own_only hlf (Only.of_below hb (fun _ => False)) fun _ _ h => h
          have HROW := Lib.hid hrow
          have hblt := HB6.out.lt
          clear hlf hrow
          have hcap2 : s.length ≤ c' := by omega
          have HLEN : Hid (s.reverse.length + (kidsOf (xa + 1) xF).reverse.length ≤ 1000000) := Lib.hid (by
            have h1 := stN_len (kidsOf (xa + 1) xF)
            rw [stN_kids] at h1
            rw [List.length_reverse, List.length_reverse]; omega)
          have HEND : Hid (∀ v8 W8 W7, Below W6.heap.size W6 W7 → W8.ownsRow W.heap.size 50 3 v8 (s.reverse ++ (kidsOf (xa + 1) xF).reverse).length ((s.reverse ++ (kidsOf (xa + 1) xF).reverse).flatMap spotV) → Only (fun k => (Value.slice (some ⟨g, 0, none⟩) s.length c').ownBlock = some k) W7 W8 → (v8.ownBlock = (Value.slice (some ⟨g, 0, none⟩) s.length c').ownBlock ∨ v8.ownBlock = some W7.heap.size) →
              Hid (PMem J C W n₀ C2 (pre ++ ndPr q xL) q (kidsOf (xa + 1) xF ++ s) (.slice (some ⟨g', 0, none⟩) (xa + 1) cap') v8 W8)) := Lib.hid fun v8 W8 W7 h1 h2 h3 h4 => by
            have h7 := ST6.out.below HJ.out h1
            refine Lib.hid (h7.stack HJ.out h3 ?_ ?_ ?_)
            · rw [← List.reverse_append, List.length_reverse] at h2
              exact h2
            · intro k hk
              rcases h4 with h | h
              · exact .inl (h.symm.trans hk)
              · rw [h] at hk; injection hk with hk; exact .inr (Nat.le_of_eq hk)
            · intro y hy
              rcases List.mem_append.1 hy with hy | hy
              · exact kids_nd (xa + 1) (hndK.out).2 y hy
              · exact ST6.out.nd y (List.mem_cons_of_mem _ hy)
          have hbx : Blk 50 W6.drew NB [.int .i64 (xa : Int), .string ⟨xk.toArray⟩, .pointer (some ⟨xb, 0, none⟩)] := HB6.out
          clear c62
          refine wp_region_noPanic ?_
          refine wp_region_held_drew (S := (fun w' => w'.cell? ⟨NB, 2, none⟩ = some (.pointer (some ⟨xb, 0, none⟩)))) (by kernel_rfl) ?_ (fun hHeld => ?_)
          · exact hbx.at (o := 2) rfl
          refine wpAnyH_take (i := 0) (oi := ⟨some 33, _, _, _, _, _⟩) (v := ?_) rfl (by kernel_rfl) (by kernel_rfl) (by kernel_rfl) (fun _ _ _ h => h) (Or.inl ⟨by rfl, ?_⟩) (by assumption) ?_
          rotate_left
          · (intro w hSw; (try dsimp only at hSw); go_simp; try with_reducible rfl)
          try simp only [Act.put, List.setIfInBounds_toArray, List.set_cons_zero, List.set_cons_succ]
          refine wpAnyH_take (i := 1) (oi := ⟨some 34, _, _, _, _, _⟩) (v := ?_) rfl (by kernel_rfl) (by kernel_rfl) (by kernel_rfl) (fun _ _ _ h => h) (Or.inl ⟨by rfl, ?_⟩) (by assumption) ?_
          rotate_left
          · (intro w hSw; (try dsimp only at hSw); go_simp; try with_reducible rfl)
          try simp only [Act.put, List.setIfInBounds_toArray, List.set_cons_zero, List.set_cons_succ]
          refine wpAnyH_take (i := 2) (oi := ⟨some 35, _, _, _, _, _⟩) (v := ?_) rfl (by kernel_rfl) (by kernel_rfl) (by kernel_rfl) (fun _ _ _ h => h) (Or.inl ⟨by rfl, ?_⟩) (by assumption) ?_
          rotate_left
          · (intro w hSw; (try dsimp only at hSw); go_simp; try with_reducible rfl)
          try simp only [Act.put, List.setIfInBounds_toArray, List.set_cons_zero, List.set_cons_succ]
          refine wpAnyH_take (i := 3) (oi := ⟨some 36, _, _, _, _, _⟩) (v := ?_) rfl (by kernel_rfl) (by kernel_rfl) (by kernel_rfl) (fun _ _ _ h => h) (Or.inl ⟨by rfl, ?_⟩) (by assumption) ?_
          rotate_left
          · (intro w hSw; (try dsimp only at hSw); go_simp; try with_reducible rfl)
          try simp only [Act.put, List.setIfInBounds_toArray, List.set_cons_zero, List.set_cons_succ]
          refine wpAnyH_take (i := 4) (oi := ⟨some 37, _, _, _, _, _⟩) (v := ?_) rfl (by kernel_rfl) (by kernel_rfl) (by kernel_rfl) (fun _ _ _ h => h) (Or.inl ⟨by rfl, ?_⟩) (by assumption) ?_
          rotate_left
          · (intro w hSw; (try dsimp only at hSw); go_simp; try with_reducible rfl)
          try simp only [Act.put, List.setIfInBounds_toArray, List.set_cons_zero, List.set_cons_succ]
          refine wpAnyH_take (i := 5) (oi := ⟨some 38, _, _, _, _, _⟩) (v := ?_) rfl (by kernel_rfl) (by kernel_rfl) (by kernel_rfl) (fun _ _ _ h => h) (Or.inl ⟨by rfl, ?_⟩) (by assumption) ?_
          rotate_left
          · (intro w hSw; (try dsimp only at hSw); go_simp; try with_reducible rfl)
          try simp only [Act.put, List.setIfInBounds_toArray, List.set_cons_zero, List.set_cons_succ]
          refine wpAnyH_take (i := 6) (oi := ⟨some 39, _, _, _, _, _⟩) (v := ?_) rfl (by kernel_rfl) (by kernel_rfl) (by kernel_rfl) (fun _ _ _ h => h) (Or.inl ⟨by rfl, ?_⟩) (by assumption) ?_
          rotate_left
          · (intro w hSw; (try dsimp only at hSw); go_simp; try with_reducible rfl)
          try simp only [Act.put, List.setIfInBounds_toArray, List.set_cons_zero, List.set_cons_succ]
          refine wpAnyH_ready (rs := [7]) (by kernel_rfl) (by simp) ?_
          refine AllReadyH.cons (o := ⟨some 40, _, _, _, _, _⟩) rfl (fun K hK => ?_) AllReadyH.nil
          go_simp
          refine (HS7.out _ (ST6.out.onl.drewN 1)).mono ?_
          rintro e W7 ⟨v7, rfl, hrow7, hB7⟩
          replace hbx := hbx.below hB7 hbx.lt
          replace hB7 : Below W6.heap.size W6 W7 := (show Below W6.heap.size W6 (W6.drewN 1) from (Below.refl _ _).drew).trans hB7
          go_wp2_with fail
          refine hK.out _ _ ?_ (fun hHeldX => ?_)
          · exact hbx.at (o := 2) rfl
          clear hK K hHeld
          rename _ => hHeld
          try simp only [Act.put, List.setIfInBounds_toArray, List.set_cons_zero, List.set_cons_succ]
          refine wpAnyH_ready (rs := [8]) (by kernel_rfl) (by simp) ?_
          refine AllReadyH.cons (o := ⟨some 41, _, _, _, _, _⟩) rfl (fun K hK => ?_) AllReadyH.nil
          obtain ⟨v8, W8, hr8, hrow8, hO8, hl8⟩ := spots_append W7 W.heap.size W6.heap.size 47 (.slice (some ⟨g, 0, none⟩) s.length c') v7 s.reverse (kidsOf (xa + 1) xF).reverse (HROW.out _ hB7) hrow7 (HLEN.out) (by have := ST6.out.onl.size; have := hB7.size; exact Nat.le_trans ‹_› ‹_›)
          refine step_append_run rfl _ _ 47 rfl _ _ _ _ rfl rfl hr8 ?_
          replace hbx := hbx.only hO8 (fun e => hsx (by simpa [Value.ownBlock] using e))
          refine hK.out _ _ ?_ (fun hHeldX => ?_)
          · exact hbx.at (o := 2) rfl
          clear hK K hHeld
          rename _ => hHeld
          try simp only [Act.put, List.setIfInBounds_toArray, List.set_cons_zero, List.set_cons_succ]
          refine wpAnyH_take (i := 9) (oi := ⟨some 4, _, _, _, _, _⟩) (v := ?_) rfl (by kernel_rfl) (by kernel_rfl) (by kernel_rfl) (fun _ _ _ h => h) (Or.inl ⟨by rfl, ?_⟩) (by assumption) ?_
          rotate_left
          · (intro w hSw; (try dsimp only at hSw); go_simp; try with_reducible rfl)
          try simp only [Act.put, List.setIfInBounds_toArray, List.set_cons_zero, List.set_cons_succ]
          refine wpAnyH_done (by kernel_rfl) ?_ _
          refine NoPanic.normal ?_
          have HST8 := HEND.out v8 W8 W7 hB7 hrow8 hO8 hl8
          obtain ⟨a8, c8, rfl⟩ := own_form hrow8
          rw [show (s.reverse ++ (kidsOf (xa + 1) xF).reverse).length = (kidsOf (xa + 1) xF ++ s).length by rw [← List.reverse_append, List.length_reverse]] at HST8 ⊢
          clear hbx hrow7 hB7 hrow8 hO8 hl8 hr8
          have HA := HA2
          have hstn : stN (kidsOf (xa + 1) xF ++ s) + 1 ≤ gk := by (have h1 := hg; rw [stN_cons] at h1; rw [stN_app, stN_kids]; simp only [Spo.F] at h1; omega)
          go_wp2_with fail
          go_roundg (gk - 1)
          case measure => omega
          case rel => exact ⟨C2, _, q, _, _, _, _, _, by omega, by rw [hql], rfl, HA, HST8⟩
        · have hpp : pre ++ z <+: prs o := ((List.prefix_append_right_inj _).2 hz).trans HAP.out
          go_wp2
          refine bodyPost_ret (results_none rfl _ _ _) rfl ?_
          exact HRs.out _ _ _ _ (ST5.out.gr.trans hg2 ST5.out.onl.size) (ST5.out.onl.grow ho2 ST5.out.gr) hw2 hpp hj2
end Go.Proofs.Ytabgedmocdjkcaa
