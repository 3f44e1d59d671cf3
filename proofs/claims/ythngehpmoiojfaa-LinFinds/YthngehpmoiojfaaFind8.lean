/- Layer 8 (package lin): find. -/
import Derived.Test.YthngehpmoiojfaaDead8
namespace Go.Proofs.Ythngehpmoiojfaa
open Go.RowKit

set_option maxHeartbeats 2000000 in
theorem se_find0 {B M : Nat} {s0 : StZ} {L : List CallZ} {cv : Value} {c : Nat} : GoOn 20 B s0 L cv (.map (some M)) 0 c (resF L) zeroF := by
  intro K w x s h hn hO hs hf0 hf hk
  have hw := se_whole (h.alloc (.cells (stV s).toArray 40))
  rw [show decide (x.O.length = L.length) = true from decide_eq_true (by omega)] at hw
  have hc1 : resF L x.D s = some [] := by unfold resF; rw [hn]; rfl
  rw [hc1]
  go_enter Try.func20, Try.ntmps20
  go_wp2_with fail
  refine hw.mono ?_
  rintro e w2 ⟨rfl, hb⟩
  have H3 := Lib.hid ((h.alloc (.cells (stV s).toArray 40)).below hb)
  have Q3 := Lib.hid (((Only.refl (fun k => ¬ K k) w).alloc (.cells (stV s).toArray 40)).trans (Only.of_below hb _))
  clear h hs hw hn hO hc1 hb
  go_wp2
  go_ret
  exact ⟨true, x, rfl, H3.out, Q3.out, rfl, by simp⟩
/-- Behind 'at'. -/
structure FMid (w2 wx : World) (X : Nat) (D : List Bool) (k : ByteArray) : Prop where
  le : w2.heap.size ≤ X
  blk : Blk 74 wx X (ptL D k)
  b : Below w2.heap.size w2 wx
def FiS (w : World) (B X : Nat) (D : List Bool) (s : StZ) : Prop := w.rangeAt B 5 (D.map Value.bool) ∧ w.cell? ⟨B, 3, none⟩ = some (fn8 22) ∧ w.rangeAt X 0 (stV s)
theorem FiS.keep {N : Nat} {w w' : World} {B X : Nat} {D : List Bool} {s : StZ} (h : FiS w B X D s) (hN : w.heap.size = N) (hb : Below N w w') : FiS w' B X D s := by
  subst hN
  obtain ⟨h1, h2, h3⟩ := h
  have R : ∀ {b o : Nat} {l : List Value}, w.rangeAt b o l → w'.rangeAt b o l := fun h k v hv => (hb.cell (p := ⟨_, _, none⟩) (cell_lt (h k v hv))).trans (h k v hv)
  exact ⟨R h1, (hb.cell (cell_lt h2)).trans h2, R h3⟩
theorem seV_dones {s0 : StZ} {cv mv : Value} {x : Se} {j : Nat} {v : Value} (h : (x.D.map Value.bool)[j]? = some v) : (seV s0 cv mv x)[5 + j]? = some v := by
  rw [Nat.add_comm]
  show (x.D.map Value.bool ++ [x.ov, mv, numV x.fnd])[j]? = _
  rw [List.getElem?_append_left (List.getElem?_eq_some_iff.1 h).1]
  exact h
theorem blk_keep {w w' : World} {B o : Nat} {l : List Value} {S : Nat → Prop} (h : w.rangeAt B o l) (ho : Only S w w') (hS : ¬ S B) : w'.rangeAt B o l := fun k v hv => (World.cell?_of_block (w := w) (ho.block B (cell_lt (h k v hv)) hS)).trans (h k v hv)

set_option maxHeartbeats 8000000 in
set_option maxRecDepth 100000 in
theorem se_find {B M : Nat} {s0 : StZ} {L : List CallZ} {cv : Value} {c : Nat} (hL : L.length ≤ 24) (hc : c ≤ 1000) (hp : ∀ y ∈ L, y.op.p.size ≤ c) : ∀ n, GoOn 20 B s0 L cv (.map (some M)) n c (resF L) zeroF
  | 0 => se_find0
  | n + 1 => by
    have IH := Lib.hid (se_find (B := B) (M := M) (s0 := s0) (cv := cv) hL hc hp n)
    intro K w x s h hn hO hs hf0 hf hk
    have hD24 : x.D.length = 24 := h.dl
    have hw := se_whole (h.alloc (.cells (stV s).toArray 40))
    rw [show decide (x.O.length = L.length) = false from decide_eq_false (by omega)] at hw
    have HFI := Lib.hid (find_is (s := s) (by rw [h.dl]; exact hL) hn)
    have HCO := Lib.hid (unlike_cost L n x.D)
    have HX := Lib.hid hk
    have HE : Hid (∀ (K' : Nat → Prop) (w3 : World) (pa : Option Addr) (cap : Nat), SeIs K' w3 B s0 L cv (.map (some M)) x → PlK K' w3 pa (unlikeZ L (minZ L x.D)) → _) := Lib.hid (fun K' w3 pa cap h3 hpl => se_each_find (cap := cap) h3 IH.out hn hO hL hs hp (fun y hy => min_places y (unlike_in hy)) (by have := unlike_len8 L x.D; omega) hpl hf0 (by rw [sum_zero]; unfold zeroF at hf; exact hf) (by have := unlike_cost L n x.D; omega))
    have s1 : -100000000 ≤ s.n := by have := hs.lo; omega
    have s2 : s.n ≤ 100000000 := by have := hs.hi; omega
    have s3 : s.slot.size ≤ 1000000 := by have := hs.size; omega
    have hks : (keyZ s).size ≤ maxLen := by have := key_size hs (by omega); unfold maxLen; omega
    have HKey := Lib.hid (fn_Key s1 s2 s3)
    have H := Lib.hid h
    have HU := Lib.hid hn
    clear hf hs hf0 hp h hO hn s1 s2 s3 hk
    go_enter Try.func20, Try.ntmps20
    go_wp2_with fail
    refine hw.mono ?_
    rintro e w2 ⟨rfl, hb⟩
    have B2 := Lib.hid ((Blk.new (W := w) (t := 40) (l := stV s)).below hb (by simp))
    have H2 := Lib.hid (((H.out.boxed (l := stV s) (t := 40))).below hb)
    have Q2 := Lib.hid (((Only.refl (fun k => ¬ K k) w).alloc (.cells (stV s).toArray 40)).trans (Only.of_below hb _))
    have hX0 : w.heap.size < w2.heap.size := B2.out.lt
    clear hb hw
    have hbld := build_point hD24 (keyZ s)
    have E0 : Hid (FiS w2.drew B w.heap.size x.D s) := Lib.hid ⟨rangeAt_sub (o := 5) (blk_range H2.out.blk) (fun j v hv => seV_dones hv), H2.out.keyAt, blk_range B2.out⟩
    have hdr : w2.drew.heap.size = w2.heap.size := rfl
    generalize hkey : keyZ s = key at *
    have EK := Lib.hid hkey
    clear hkey
    go_upto_region 3 with fail
    go_cut [5] from 6 to 39 (fun s5 wx => ∃ X : Nat, s5 = .pointer (some ⟨X, 0, none⟩) ∧ Hid (FMid w2 wx X x.D key))
    case first =>
      refine wp_region_noPanic ?_
      refine wp_region_held_drew (S := (fun w' => w'.rangeAt B 5 (x.D.map Value.bool) ∧ w'.cell? ⟨B, 3, none⟩ = some (fn8 22) ∧ w'.rangeAt w.heap.size 0 (stV s))) (by kernel_rfl) ?_ (fun hHeld => ?_)
      · first | exact E0.out.keep rfl G6.out | exact E0.out
      refine wpAnyH_take (i := 0) (oi := ⟨some 8, _, _, _, _, _⟩) (v := ?_) rfl (by kernel_rfl) (by kernel_rfl) (by kernel_rfl) (fun _ _ _ h => h) (Or.inl ⟨by rfl, ?_⟩) (by assumption) ?_
      rotate_left
      · (intro w hSw; (try dsimp only at hSw); go_simp; try with_reducible rfl)
      try simp only [Act.put, List.setIfInBounds_toArray, List.set_cons_zero, List.set_cons_succ]
      refine wpAnyH_take (i := 1) (oi := ⟨some 9, _, _, _, _, _⟩) (v := ?_) rfl (by kernel_rfl) (by kernel_rfl) (by kernel_rfl) (fun _ _ _ h => h) (Or.inl ⟨by rfl, ?_⟩) (by assumption) ?_
      rotate_left
      · (intro w hSw; (try dsimp only at hSw); go_simp; try with_reducible rfl)
      try simp only [Act.put, List.setIfInBounds_toArray, List.set_cons_zero, List.set_cons_succ]
      refine wpAnyH_take (i := 2) (oi := ⟨some 10, _, _, _, _, _⟩) (v := ?_) rfl (by kernel_rfl) (by kernel_rfl) (by kernel_rfl) (fun _ _ _ h => h) (Or.inl ⟨by rfl, ?_⟩) (by assumption) ?_
      rotate_left
      · (intro w hSw; (try dsimp only at hSw); go_simp; try with_reducible rfl)
      try simp only [Act.put, List.setIfInBounds_toArray, List.set_cons_zero, List.set_cons_succ]
      refine wpAnyH_take (i := 3) (oi := ⟨some 11, _, _, _, _, _⟩) (v := .agg (x.D.map Value.bool).toArray) rfl (by kernel_rfl) (by kernel_rfl) (by kernel_rfl) (fun _ _ _ h => h) (yieldsIf_load_mid (by rfl) 63 _ rfl B 5 rfl (x.D.map Value.bool) _ (fun w h => h.1) Try.underlying63 rfl (by rw [List.length_map, hD24]; kernel_rfl)) (by assumption) ?_
      try simp only [Act.put, List.setIfInBounds_toArray, List.set_cons_zero, List.set_cons_succ]
      refine wpAnyH_take (i := 4) (oi := ⟨some 12, _, _, _, _, _⟩) (v := ?_) rfl (by kernel_rfl) (by kernel_rfl) (by kernel_rfl) (fun _ _ _ h => h) (Or.inl ⟨by rfl, ?_⟩) (by assumption) ?_
      rotate_left
      · (intro w hSw; (try dsimp only at hSw); go_simp; try with_reducible rfl)
      try simp only [Act.put, List.setIfInBounds_toArray, List.set_cons_zero, List.set_cons_succ]
      refine wpAnyH_take (i := 5) (oi := ⟨some 13, _, _, _, _, _⟩) (v := ?_) rfl (by kernel_rfl) (by kernel_rfl) (by kernel_rfl) (fun _ _ _ h => h) (Or.inl ⟨by rfl, ?_⟩) (by assumption) ?_
      rotate_left
      · (intro w hSw; (try dsimp only at hSw); go_simp; try with_reducible rfl)
      try simp only [Act.put, List.setIfInBounds_toArray, List.set_cons_zero, List.set_cons_succ]
      refine wpAnyH_take (i := 6) (oi := ⟨some 14, _, _, _, _, _⟩) (v := ?_) rfl (by kernel_rfl) (by kernel_rfl) (by kernel_rfl) (fun _ _ _ h => h) (Or.inl ⟨by rfl, ?_⟩) (by assumption) ?_
      rotate_left
      · (intro w hSw; (try dsimp only at hSw); go_simp; try with_reducible rfl)
      try simp only [Act.put, List.setIfInBounds_toArray, List.set_cons_zero, List.set_cons_succ]
      refine wpAnyH_take (i := 7) (oi := ⟨some 15, _, _, _, _, _⟩) (v := ?_) rfl (by kernel_rfl) (by kernel_rfl) (by kernel_rfl) (fun _ _ _ h => h) (Or.inl ⟨by rfl, ?_⟩) (by assumption) ?_
      rotate_left
      · (intro w hSw; (try dsimp only at hSw); go_simp; try with_reducible rfl)
      try simp only [Act.put, List.setIfInBounds_toArray, List.set_cons_zero, List.set_cons_succ]
      refine wpAnyH_take (i := 8) (oi := ⟨some 16, _, _, _, _, _⟩) (v := ?_) rfl (by kernel_rfl) (by kernel_rfl) (by kernel_rfl) (fun _ _ _ h => h) (Or.inl ⟨by rfl, ?_⟩) (by assumption) ?_
      rotate_left
      · (intro w hSw; (try dsimp only at hSw); go_simp; try with_reducible rfl)
      try simp only [Act.put, List.setIfInBounds_toArray, List.set_cons_zero, List.set_cons_succ]
      refine wpAnyH_take (i := 9) (oi := ⟨some 17, _, _, _, _, _⟩) (v := stA s) rfl (by kernel_rfl) (by kernel_rfl) (by kernel_rfl) (fun _ _ _ h => h) (yieldsIf_load_mid (by rfl) 40 _ rfl w.heap.size 0 rfl (stV s) _ (fun w h => h.2.2) Try.underlying40 rfl (by kernel_rfl)) (by assumption) ?_
      try simp only [Act.put, List.setIfInBounds_toArray, List.set_cons_zero, List.set_cons_succ]
      refine wpAnyH_ready (rs := [10, 12]) (by kernel_rfl) (by simp) ?_
      refine AllReadyH.cons (o := ⟨some 18, _, _, _, _, _⟩) rfl (fun K hK => ?_) (AllReadyH.cons (o := ⟨some 5, _, _, _, _, _⟩) rfl (fun K hK => ?_) AllReadyH.nil)
      · go_simp
        refine (HKey.out _).mono ?_
        rintro e w6 ⟨rfl, hb6⟩
        have G6 := Lib.hid hb6
        clear hb6
        go_wp2_with fail
        refine hK.out _ _ ?_ (fun hHeldX => ?_)
        · first | exact E0.out.keep rfl G6.out | exact E0.out
        clear hK K hHeld
        rename _ => hHeld
        try simp only [Act.put, List.setIfInBounds_toArray, List.set_cons_zero, List.set_cons_succ]
        refine wpAnyH_take (i := 11) (oi := ⟨some 19, _, _, _, _, _⟩) (v := ptA x.D key) rfl (by kernel_rfl) (by kernel_rfl) (by kernel_rfl) (fun _ _ _ h => h) (yieldsIf_build (by rfl) 74 (.tmp 11) (.tmp 18) rfl _ _ _ rfl rfl hbld) (by assumption) ?_
        try simp only [Act.put, List.setIfInBounds_toArray, List.set_cons_zero, List.set_cons_succ]
        refine wpAnyH_ready (rs := [12]) (by kernel_rfl) (by simp) ?_
        refine AllReadyH.cons (o := ⟨some 5, _, _, _, _, _⟩) rfl (fun K hK => ?_) AllReadyH.nil
        go_simp
        refine hK.out _ _ ?_ (fun hHeldX => ?_)
        · exact E0.out.keep rfl (G6.out.alloc G6.out.size _)
        clear hK K hHeld
        rename _ => hHeld
        try simp only [Act.put, List.setIfInBounds_toArray, List.set_cons_zero, List.set_cons_succ]
        refine wpAnyH_ready (rs := [13]) (by kernel_rfl) (by simp) ?_
        refine AllReadyH.cons (o := ⟨none, _, _, _, _, _⟩) rfl (fun K hK => ?_) AllReadyH.nil
        have T7 := Lib.hid (Blk.new (W := w6) (t := 74) (l := [Value.bool false, Value.bool false, Value.bool false, Value.bool false, Value.bool false, Value.bool false, Value.bool false, Value.bool false, Value.bool false, Value.bool false, Value.bool false, Value.bool false, Value.bool false, Value.bool false, Value.bool false, Value.bool false, Value.bool false, Value.bool false, Value.bool false, Value.bool false, Value.bool false, Value.bool false, Value.bool false, Value.bool false, Value.string { data := #[] }]))
        refine step_store_mid rfl 74 (.tmp 5) (.tmp 19) rfl w6.heap.size 0 (ptL x.D key).toArray rfl rfl (blk_there T7.out (o := 0) (by simp [pt_size hD24])) (by rw [List.size_toArray, pt_size hD24]; kernel_rfl) (pt_one _ _) ?_
        obtain ⟨w7, e7⟩ : ∃ w7, (w6.alloc (.cells #[Value.bool false, Value.bool false, Value.bool false, Value.bool false, Value.bool false, Value.bool false, Value.bool false, Value.bool false, Value.bool false, Value.bool false, Value.bool false, Value.bool false, Value.bool false, Value.bool false, Value.bool false, Value.bool false, Value.bool false, Value.bool false, Value.bool false, Value.bool false, Value.bool false, Value.bool false, Value.bool false, Value.bool false, Value.string { data := #[] }] 74)).setCells w6.heap.size 0 (ptL x.D key) = w7 := ⟨_, rfl⟩
        rw [show (ptL x.D key).toArray.toList = ptL x.D key from rfl, e7]
        obtain ⟨b7, o7⟩ := blk_wrote (by simp [pt_size hD24]) T7.out e7
        have B7 := Lib.hid b7
        have G7 := Lib.hid ((G6.out.alloc G6.out.size _).trans (o7.below (by have := G6.out.size; simp at this ⊢; omega) (by intro j hj e; have := G6.out.size; simp at this; omega)))
        clear e7 b7 o7
        refine hK.out _ _ ?_ (fun hHeldX => ?_)
        · exact E0.out.keep rfl G7.out
        clear hK K hHeld
        rename _ => hHeld
        simp only [Act.put]
        refine wpAnyH_done (by kernel_rfl) ?_ _
        refine NoPanic.normal ?_
        go_wp2_with fail
        go_meet
        case rel => exact ⟨_, rfl, Lib.hid ⟨by have := G6.out.size; simp at this ⊢; try omega, B7.out, (below_draws (Below.refl _ w2) 1).trans G7.out⟩⟩
      · go_simp
        refine hK.out _ _ ?_ (fun hHeldX => ?_)
        · exact E0.out.keep rfl ((Below.refl _ _).alloc (Nat.le_refl _) _)
        clear hK K hHeld
        rename _ => hHeld
        try simp only [Act.put, List.setIfInBounds_toArray, List.set_cons_zero, List.set_cons_succ]
        refine wpAnyH_ready (rs := [10]) (by kernel_rfl) (by simp) ?_
        refine AllReadyH.cons (o := ⟨some 18, _, _, _, _, _⟩) rfl (fun K hK => ?_) AllReadyH.nil
        go_simp
        refine (HKey.out _).mono ?_
        rintro e w6 ⟨rfl, hb6⟩
        have G5 := Lib.hid hb6
        have G6 := Lib.hid (((Below.refl w2.heap.size w2.drew).alloc (Nat.le_refl _) _).trans (hb6.mono (by simp)))
        clear hb6
        go_wp2_with fail
        refine hK.out _ _ ?_ (fun hHeldX => ?_)
        · first | exact E0.out.keep rfl G6.out | exact E0.out
        clear hK K hHeld
        rename _ => hHeld
        try simp only [Act.put, List.setIfInBounds_toArray, List.set_cons_zero, List.set_cons_succ]
        refine wpAnyH_take (i := 11) (oi := ⟨some 19, _, _, _, _, _⟩) (v := ptA x.D key) rfl (by kernel_rfl) (by kernel_rfl) (by kernel_rfl) (fun _ _ _ h => h) (yieldsIf_build (by rfl) 74 (.tmp 11) (.tmp 18) rfl _ _ _ rfl rfl hbld) (by assumption) ?_
        try simp only [Act.put, List.setIfInBounds_toArray, List.set_cons_zero, List.set_cons_succ]
        refine wpAnyH_ready (rs := [13]) (by kernel_rfl) (by simp) ?_
        refine AllReadyH.cons (o := ⟨none, _, _, _, _, _⟩) rfl (fun K hK => ?_) AllReadyH.nil
        have T7 := Lib.hid ((Blk.newN (n := w2.heap.size) (by rfl) (W := w2.drew) (t := 74) (l := [Value.bool false, Value.bool false, Value.bool false, Value.bool false, Value.bool false, Value.bool false, Value.bool false, Value.bool false, Value.bool false, Value.bool false, Value.bool false, Value.bool false, Value.bool false, Value.bool false, Value.bool false, Value.bool false, Value.bool false, Value.bool false, Value.bool false, Value.bool false, Value.bool false, Value.bool false, Value.bool false, Value.bool false, Value.string { data := #[] }])).below G5.out (by simp))
        refine step_store_mid rfl 74 (.tmp 5) (.tmp 19) rfl w2.heap.size 0 (ptL x.D key).toArray rfl rfl (blk_there T7.out (o := 0) (by simp [pt_size hD24])) (by rw [List.size_toArray, pt_size hD24]; kernel_rfl) (pt_one _ _) ?_
        obtain ⟨w7, e7⟩ : ∃ w7, (w6).setCells w2.heap.size 0 (ptL x.D key) = w7 := ⟨_, rfl⟩
        rw [show (ptL x.D key).toArray.toList = ptL x.D key from rfl, e7]
        obtain ⟨b7, o7⟩ := blk_wrote (by simp [pt_size hD24]) T7.out e7
        have B7 := Lib.hid b7
        have G7 := Lib.hid (G6.out.trans (o7.below (by have := G6.out.size; simp at this ⊢; omega) (by intro j hj e; have := G6.out.size; simp at this; omega)))
        clear e7 b7 o7
        refine hK.out _ _ ?_ (fun hHeldX => ?_)
        · exact E0.out.keep rfl G7.out
        clear hK K hHeld
        rename _ => hHeld
        simp only [Act.put]
        refine wpAnyH_done (by kernel_rfl) ?_ _
        refine NoPanic.normal ?_
        go_wp2_with fail
        go_meet
        case rel => exact ⟨_, rfl, Lib.hid ⟨by have := G6.out.size; simp at this ⊢; try omega, B7.out, (below_draws (Below.refl _ w2) 1).trans G7.out⟩⟩
    case rest =>
      clear E0 hbld HKey hdr
      obtain ⟨X, rfl, MM⟩ := hcut
      have H3 := Lib.hid (show SeIs (fun j => (K j ∨ j = w.heap.size) ∨ j = X) wc B s0 L cv (.map (some M)) x by
        refine (H2.out.below MM.out.b).keep (fun _ => .inl) (fun j hj => hj.imp id fun e => ?_)
        subst e
        exact ⟨fun e => by have := H2.out.blk.lt; have := MM.out.le; omega, fun e => by have := (H2.out.own.lt _ e).2; have := MM.out.le; omega, _, _, MM.out.blk⟩)
      have B3 := Lib.hid (B2.out.below MM.out.b B2.out.lt)
      have Q3 := Lib.hid (Q2.out.trans (Only.of_below MM.out.b _))
      obtain ⟨d, hl, hd⟩ := (H3.out.drewN 1).look (s := s) (by rw [EK.out]; exact hks)
      rw [EK.out] at hl
      have HD := Lib.hid hd
      clear hd
      have S4 := Lib.hid (show (wc.drew.cell? ⟨B, 30, none⟩ = some (.map (some M)) ∧ (Instr.lookup 62 (.map (some M)) (ptA x.D key) false).run Try.prog wc.drew = .ok (.bool d) wc.drew) ∧ wc.drew.rangeAt X 0 (ptL x.D key) from ⟨⟨H3.out.mapAt, hl⟩, blk_range MM.out.blk⟩)
      clear hl
      cases d with
      | true =>
        have hr0 : resF L x.D s = none := by unfold resF; rw [HD.out rfl]; rfl
        have H4 := Lib.hid (H3.out.drewN 1)
        have Q4 := Lib.hid (Q3.out.drewN 1)
        go_upto_region 4 with fail
        refine wp_region_noPanic ?_
        refine wp_region_held_drew (S := (fun w' => (w'.cell? ⟨B, 30, none⟩ = some (.map (some M)) ∧ (Instr.lookup 62 (.map (some M)) (ptA x.D key) false).run Try.prog w' = .ok (.bool true) w') ∧ w'.rangeAt X 0 (ptL x.D key))) (by kernel_rfl) ?_ (fun hHeld => ?_)
        · exact S4.out
        refine wpAnyH_take (i := 0) (oi := ⟨some 20, _, _, _, _, _⟩) (v := ?_) rfl (by kernel_rfl) (by kernel_rfl) (by kernel_rfl) (fun _ _ _ h => h) (Or.inl ⟨by rfl, ?_⟩) (by assumption) ?_
        rotate_left
        · (intro w hSw; (try dsimp only at hSw); go_simp; try with_reducible rfl)
        try simp only [Act.put, List.setIfInBounds_toArray, List.set_cons_zero, List.set_cons_succ]
        refine wpAnyH_take (i := 1) (oi := ⟨some 21, _, _, _, _, _⟩) (v := ?_) rfl (by kernel_rfl) (by kernel_rfl) (by kernel_rfl) (fun _ _ _ h => h) (Or.inl ⟨by rfl, ?_⟩) (by assumption) ?_
        rotate_left
        · (intro w hSw; (try dsimp only at hSw); go_simp; try with_reducible rfl)
        try simp only [Act.put, List.setIfInBounds_toArray, List.set_cons_zero, List.set_cons_succ]
        refine wpAnyH_take (i := 2) (oi := ⟨some 22, _, _, _, _, _⟩) (v := ?_) rfl (by kernel_rfl) (by kernel_rfl) (by kernel_rfl) (fun _ _ _ h => h) (Or.inl ⟨by rfl, ?_⟩) (by assumption) ?_
        rotate_left
        · (intro w hSw; (try dsimp only at hSw); go_simp; try with_reducible rfl)
        try simp only [Act.put, List.setIfInBounds_toArray, List.set_cons_zero, List.set_cons_succ]
        refine wpAnyH_take (i := 3) (oi := ⟨some 23, _, _, _, _, _⟩) (v := ?_) rfl (by kernel_rfl) (by kernel_rfl) (by kernel_rfl) (fun _ _ _ h => h) (Or.inl ⟨by rfl, ?_⟩) (by assumption) ?_
        rotate_left
        · (intro w hSw; (try dsimp only at hSw); go_simp; try with_reducible rfl)
        try simp only [Act.put, List.setIfInBounds_toArray, List.set_cons_zero, List.set_cons_succ]
        refine wpAnyH_take (i := 4) (oi := ⟨some 24, _, _, _, _, _⟩) (v := ptA x.D key) rfl (by kernel_rfl) (by kernel_rfl) (by kernel_rfl) (fun _ _ _ h => h) (yieldsIf_load_mid (by rfl) 74 _ rfl X 0 rfl (ptL x.D key) _ (fun w h => h.2) Try.underlying74 rfl (by rw [pt_size hD24]; kernel_rfl)) (by assumption) ?_
        try simp only [Act.put, List.setIfInBounds_toArray, List.set_cons_zero, List.set_cons_succ]
        refine wpAnyH_take (i := 5) (oi := ⟨some 25, _, _, _, _, _⟩) (v := .bool true) rfl (by kernel_rfl) (by kernel_rfl) (by kernel_rfl) (fun _ _ _ h => h) (yieldsIf_lookup (by rfl) 62 (.tmp 23) (.tmp 24) rfl _ _ _ rfl rfl (fun _ h => h.1.2)) (by assumption) ?_
        try simp only [Act.put, List.setIfInBounds_toArray, List.set_cons_zero, List.set_cons_succ]
        refine wpAnyH_done (by kernel_rfl) ?_ _
        refine NoPanic.normal ?_
        go_wp2
        go_ret
        exact ⟨false, x, rfl, SeIs.less H4.out (fun _ h => .inl (.inl h)) (H.out.calls.only Q4.out (fun _ h => h)), Q4.out, (by (try rw [hr0]); exact ⟨rfl, rfl, rfl, by simp [zeroF], Nat.le_add_right _ _⟩)⟩
      | false =>
        go_upto_region 4 with fail
        refine wp_region_noPanic ?_
        refine wp_region_held_drew (S := (fun w' => (w'.cell? ⟨B, 30, none⟩ = some (.map (some M)) ∧ (Instr.lookup 62 (.map (some M)) (ptA x.D key) false).run Try.prog w' = .ok (.bool false) w') ∧ w'.rangeAt X 0 (ptL x.D key))) (by kernel_rfl) ?_ (fun hHeld => ?_)
        · exact S4.out
        refine wpAnyH_take (i := 0) (oi := ⟨some 20, _, _, _, _, _⟩) (v := ?_) rfl (by kernel_rfl) (by kernel_rfl) (by kernel_rfl) (fun _ _ _ h => h) (Or.inl ⟨by rfl, ?_⟩) (by assumption) ?_
        rotate_left
        · (intro w hSw; (try dsimp only at hSw); go_simp; try with_reducible rfl)
        try simp only [Act.put, List.setIfInBounds_toArray, List.set_cons_zero, List.set_cons_succ]
        refine wpAnyH_take (i := 1) (oi := ⟨some 21, _, _, _, _, _⟩) (v := ?_) rfl (by kernel_rfl) (by kernel_rfl) (by kernel_rfl) (fun _ _ _ h => h) (Or.inl ⟨by rfl, ?_⟩) (by assumption) ?_
        rotate_left
        · (intro w hSw; (try dsimp only at hSw); go_simp; try with_reducible rfl)
        try simp only [Act.put, List.setIfInBounds_toArray, List.set_cons_zero, List.set_cons_succ]
        refine wpAnyH_take (i := 2) (oi := ⟨some 22, _, _, _, _, _⟩) (v := ?_) rfl (by kernel_rfl) (by kernel_rfl) (by kernel_rfl) (fun _ _ _ h => h) (Or.inl ⟨by rfl, ?_⟩) (by assumption) ?_
        rotate_left
        · (intro w hSw; (try dsimp only at hSw); go_simp; try with_reducible rfl)
        try simp only [Act.put, List.setIfInBounds_toArray, List.set_cons_zero, List.set_cons_succ]
        refine wpAnyH_take (i := 3) (oi := ⟨some 23, _, _, _, _, _⟩) (v := ?_) rfl (by kernel_rfl) (by kernel_rfl) (by kernel_rfl) (fun _ _ _ h => h) (Or.inl ⟨by rfl, ?_⟩) (by assumption) ?_
        rotate_left
        · (intro w hSw; (try dsimp only at hSw); go_simp; try with_reducible rfl)
        try simp only [Act.put, List.setIfInBounds_toArray, List.set_cons_zero, List.set_cons_succ]
        refine wpAnyH_take (i := 4) (oi := ⟨some 24, _, _, _, _, _⟩) (v := ptA x.D key) rfl (by kernel_rfl) (by kernel_rfl) (by kernel_rfl) (fun _ _ _ h => h) (yieldsIf_load_mid (by rfl) 74 _ rfl X 0 rfl (ptL x.D key) _ (fun w h => h.2) Try.underlying74 rfl (by rw [pt_size hD24]; kernel_rfl)) (by assumption) ?_
        try simp only [Act.put, List.setIfInBounds_toArray, List.set_cons_zero, List.set_cons_succ]
        refine wpAnyH_take (i := 5) (oi := ⟨some 25, _, _, _, _, _⟩) (v := .bool false) rfl (by kernel_rfl) (by kernel_rfl) (by kernel_rfl) (fun _ _ _ h => h) (yieldsIf_lookup (by rfl) 62 (.tmp 23) (.tmp 24) rfl _ _ _ rfl rfl (fun _ h => h.1.2)) (by assumption) ?_
        try simp only [Act.put, List.setIfInBounds_toArray, List.set_cons_zero, List.set_cons_succ]
        refine wpAnyH_done (by kernel_rfl) ?_ _
        refine NoPanic.normal ?_
        have hb5 : Below wc.heap.size wc (wc.drewN 2) := below_draws (Below.refl _ _) 2
        have H5 := Lib.hid (H3.out.drewN 2)
        have B5 := Lib.hid (B3.out.drewN 2)
        have Q5 := Lib.hid (Only.of_below hb5 (fun k => ¬ (fun j => (K j ∨ j = w.heap.size) ∨ j = X) k))
        go_upto_region 6 with fail
        refine wp_region_noPanic ?_
        refine wp_region_held_drew (S := (fun w' => w'.rangeAt w.heap.size 0 (stV s))) (by kernel_rfl) ?_ (fun hHeld => ?_)
        · first | exact blk_range B8.out | exact blk_range B7.out | exact blk_range B6.out | exact blk_range B5.out
        refine wpAnyH_take (i := 0) (oi := ⟨some 26, _, _, _, _, _⟩) (v := ?_) rfl (by kernel_rfl) (by kernel_rfl) (by kernel_rfl) (fun _ _ _ h => h) (Or.inl ⟨by rfl, ?_⟩) (by assumption) ?_
        rotate_left
        · (intro w hSw; (try dsimp only at hSw); go_simp; try with_reducible rfl)
        try simp only [Act.put, List.setIfInBounds_toArray, List.set_cons_zero, List.set_cons_succ]
        refine wpAnyH_take (i := 1) (oi := ⟨some 27, _, _, _, _, _⟩) (v := stA s) rfl (by kernel_rfl) (by kernel_rfl) (by kernel_rfl) (fun _ _ _ h => h) (yieldsIf_load_mid (by rfl) 40 _ rfl w.heap.size 0 rfl (stV s) _ (fun w h => h) Try.underlying40 rfl (by kernel_rfl)) (by assumption) ?_
        try simp only [Act.put, List.setIfInBounds_toArray, List.set_cons_zero, List.set_cons_succ]
        refine wpAnyH_take (i := 2) (oi := ⟨some 28, _, _, _, _, _⟩) (v := ?_) rfl (by kernel_rfl) (by kernel_rfl) (by kernel_rfl) (fun _ _ _ h => h) (Or.inl ⟨by rfl, ?_⟩) (by assumption) ?_
        rotate_left
        · (intro w hSw; (try dsimp only at hSw); go_simp; try with_reducible rfl)
        try simp only [Act.put, List.setIfInBounds_toArray, List.set_cons_zero, List.set_cons_succ]
        refine wpAnyH_take (i := 3) (oi := ⟨some 29, _, _, _, _, _⟩) (v := ?_) rfl (by kernel_rfl) (by kernel_rfl) (by kernel_rfl) (fun _ _ _ h => h) (Or.inl ⟨by rfl, ?_⟩) (by assumption) ?_
        rotate_left
        · (intro w hSw; (try dsimp only at hSw); go_simp; try with_reducible rfl)
        try simp only [Act.put, List.setIfInBounds_toArray, List.set_cons_zero, List.set_cons_succ]
        refine wpAnyH_take (i := 6) (oi := ⟨some 32, _, _, _, _, _⟩) (v := ?_) rfl (by kernel_rfl) (by kernel_rfl) (by kernel_rfl) (fun _ _ _ h => h) (Or.inl ⟨by rfl, ?_⟩) (by assumption) ?_
        rotate_left
        · (intro w hSw; (try dsimp only at hSw); go_simp; try with_reducible rfl)
        try simp only [Act.put, List.setIfInBounds_toArray, List.set_cons_zero, List.set_cons_succ]
        refine wpAnyH_take (i := 7) (oi := ⟨some 33, _, _, _, _, _⟩) (v := ?_) rfl (by kernel_rfl) (by kernel_rfl) (by kernel_rfl) (fun _ _ _ h => h) (Or.inl ⟨by rfl, ?_⟩) (by assumption) ?_
        rotate_left
        · (intro w hSw; (try dsimp only at hSw); go_simp; try with_reducible rfl)
        try simp only [Act.put, List.setIfInBounds_toArray, List.set_cons_zero, List.set_cons_succ]
        refine wpAnyH_ready (rs := [4]) (by kernel_rfl) (by simp) ?_
        refine AllReadyH.cons (o := ⟨some 30, _, _, _, _, _⟩) rfl (fun K hK => ?_) AllReadyH.nil
        go_simp
        refine (se_next H5.out (by omega)).mono ?_
        rintro e w3 ⟨r3, rfl, hr3, hb3⟩
        have H6 := Lib.hid (H5.out.below hb3)
        have B6 := Lib.hid (B5.out.below hb3 B5.out.lt)
        have Q6 := Lib.hid (Q5.out.trans (Only.of_below hb3 _))
        have N6 := Lib.hid (SliceK.of_own hr3)
        clear hr3 hb3
        go_wp2_with fail
        refine hK.out _ _ ?_ (fun hHeldX => ?_)
        · first | exact blk_range B8.out | exact blk_range B7.out | exact blk_range B6.out | exact blk_range B5.out
        clear hK K hHeld
        rename _ => hHeld
        try simp only [Act.put, List.setIfInBounds_toArray, List.set_cons_zero, List.set_cons_succ]
        refine wpAnyH_ready (rs := [5]) (by kernel_rfl) (by simp) ?_
        refine AllReadyH.cons (o := ⟨some 31, _, _, _, _, _⟩) rfl (fun K hK => ?_) AllReadyH.nil
        go_simp
        refine (se_unlike H6.out N6.out (fun y hy => by obtain ⟨m, e, hm, _⟩ := min_places y hy; exact ⟨m, e, hm⟩) (by have := min_len L x.D; omega)).mono ?_
        rintro e w4 ⟨r4, rfl, hr4, hb4⟩
        obtain ⟨⟨pa, cap, rfl, pl4⟩, h4⟩ := H6.out.places hb4 hr4
        have B7 := Lib.hid (B6.out.below hb4 B6.out.lt)
        have H7 := Lib.hid (HE.out _ w4 pa cap h4 pl4)
        have Q7 := Lib.hid (Q6.out.trans (Only.of_below hb4 _))
        clear hr4 hb4 pl4 h4
        go_wp2_with fail
        refine hK.out _ _ ?_ (fun hHeldX => ?_)
        · first | exact blk_range B8.out | exact blk_range B7.out | exact blk_range B6.out | exact blk_range B5.out
        clear hK K hHeld
        rename _ => hHeld
        try simp only [Act.put, List.setIfInBounds_toArray, List.set_cons_zero, List.set_cons_succ]
        refine wpAnyH_ready (rs := [8]) (by kernel_rfl) (by simp) ?_
        refine AllReadyH.cons (o := ⟨some 34, _, _, _, _, _⟩) rfl (fun K hK => ?_) AllReadyH.nil
        go_simp
        refine H7.out.mono ?_
        rintro e w5 hE
        have E5 := GoEnd.less H3.out hE (fun _ h => .inl h) Q7.out
        obtain ⟨r, x4, rfl, h5, q5, g5⟩ := E5
        have B8 := Lib.hid (B3.out.only q5 (fun h => h (.inl (.inr rfl))))
        have H8a := Lib.hid h5
        have Q8 := Lib.hid q5
        have G5 := Lib.hid g5
        clear h5 q5 g5 hE
        go_wp2_with fail
        refine hK.out _ _ ?_ (fun hHeldX => ?_)
        · first | exact blk_range B8.out | exact blk_range B7.out | exact blk_range B6.out | exact blk_range B5.out
        clear hK K hHeld
        rename _ => hHeld
        try simp only [Act.put, List.setIfInBounds_toArray, List.set_cons_zero, List.set_cons_succ]
        refine wpAnyH_done (by kernel_rfl) ?_ _
        refine NoPanic.normal ?_
        have g5 := G5.out
        rw [HFI.out, sum_zero] at g5
        clear G5
        have Q8w := Lib.hid (Q3.out.trans (Q8.out.mono (T := fun k => ¬ K k) (fun _ _ hk h => hk (.inl (.inl h)))))
        cases hres : resF L x.D s with
        | some t =>
          rw [hres] at g5
          obtain ⟨rfl, hO5⟩ := g5
          go_wp2
          go_ret
          exact ⟨true, x4, rfl, SeIs.less H8a.out (fun _ h => .inl (.inl h)) (H.out.calls.only Q8w.out (fun _ h => h)), Q8w.out, (by (try rw [hres]); exact ⟨rfl, hO5⟩)⟩
        | none =>
          rw [hres] at g5
          obtain ⟨rfl, e1, e2, e3, e4⟩ := g5
          have hcn : conts smallM L (nU L x4.D) x4.D s = [] := by rw [e1]; unfold resF at hres; exact List.head?_eq_none_iff.1 hres
          have H8 := Lib.hid (H8a.out.drewN 1)
          obtain ⟨W9, hr9, h9, o9, k9⟩ := H8.out.bury (s := s) (by rw [EK.out]; exact hks) (by have := HCO.out; have := HX.out; omega) hcn
          rw [e1, EK.out] at hr9
          have X8 := Lib.hid (show (w5.drewN 1).rangeAt X 0 (ptL x.D key) from blk_keep (blk_range MM.out.blk) (Q8.out.drewN 1) (fun h => h (.inr rfl)))
          have X9 := Lib.hid (blk_keep X8.out o9 (fun e => k9 (.inr e.symm)))
          have H9 := Lib.hid h9
          have HR := Lib.hid (show (Instr.mapUpdate 62 (.map (some M)) (ptA x.D key) (.bool true)).run Try.prog w5.drew = .ok () W9 from hr9)
          have Q9 := Lib.hid ((Q8w.out.drewN 1).trans (o9.mono (T := fun k => ¬ K k) (fun _ _ e h => k9 (.inl (.inl (e ▸ h))))))
          clear hr9 h9 o9 hcn
          go_upto_region 8 with fail
          refine wp_region_noPanic ?_
          refine wp_region_held_drew (S := (fun w' => w'.cell? ⟨B, 30, none⟩ = some (.map (some M)) ∧ w'.rangeAt X 0 (ptL x.D key))) (by kernel_rfl) ?_ (fun hHeld => ?_)
          · exact ⟨H8.out.mapAt, X8.out⟩
          refine wpAnyH_take (i := 0) (oi := ⟨some 35, _, _, _, _, _⟩) (v := ?_) rfl (by kernel_rfl) (by kernel_rfl) (by kernel_rfl) (fun _ _ _ h => h) (Or.inl ⟨by rfl, ?_⟩) (by assumption) ?_
          rotate_left
          · (intro w hSw; (try dsimp only at hSw); go_simp; try with_reducible rfl)
          try simp only [Act.put, List.setIfInBounds_toArray, List.set_cons_zero, List.set_cons_succ]
          refine wpAnyH_take (i := 1) (oi := ⟨some 36, _, _, _, _, _⟩) (v := ?_) rfl (by kernel_rfl) (by kernel_rfl) (by kernel_rfl) (fun _ _ _ h => h) (Or.inl ⟨by rfl, ?_⟩) (by assumption) ?_
          rotate_left
          · (intro w hSw; (try dsimp only at hSw); go_simp; try with_reducible rfl)
          try simp only [Act.put, List.setIfInBounds_toArray, List.set_cons_zero, List.set_cons_succ]
          refine wpAnyH_take (i := 2) (oi := ⟨some 37, _, _, _, _, _⟩) (v := ?_) rfl (by kernel_rfl) (by kernel_rfl) (by kernel_rfl) (fun _ _ _ h => h) (Or.inl ⟨by rfl, ?_⟩) (by assumption) ?_
          rotate_left
          · (intro w hSw; (try dsimp only at hSw); go_simp; try with_reducible rfl)
          try simp only [Act.put, List.setIfInBounds_toArray, List.set_cons_zero, List.set_cons_succ]
          refine wpAnyH_take (i := 3) (oi := ⟨some 38, _, _, _, _, _⟩) (v := ?_) rfl (by kernel_rfl) (by kernel_rfl) (by kernel_rfl) (fun _ _ _ h => h) (Or.inl ⟨by rfl, ?_⟩) (by assumption) ?_
          rotate_left
          · (intro w hSw; (try dsimp only at hSw); go_simp; try with_reducible rfl)
          try simp only [Act.put, List.setIfInBounds_toArray, List.set_cons_zero, List.set_cons_succ]
          refine wpAnyH_take (i := 4) (oi := ⟨some 39, _, _, _, _, _⟩) (v := ptA x.D key) rfl (by kernel_rfl) (by kernel_rfl) (by kernel_rfl) (fun _ _ _ h => h) (yieldsIf_load_mid (by rfl) 74 _ rfl X 0 rfl (ptL x.D key) _ (fun w h => h.2) Try.underlying74 rfl (by rw [pt_size hD24]; kernel_rfl)) (by assumption) ?_
          try simp only [Act.put, List.setIfInBounds_toArray, List.set_cons_zero, List.set_cons_succ]
          refine wpAnyH_ready (rs := [5]) (by kernel_rfl) (by simp) ?_
          refine AllReadyH.cons (o := ⟨none, _, _, _, _, _⟩) rfl (fun K hK => ?_) AllReadyH.nil
          go_simp
          rw [HR.out]
          refine hK.out _ _ ?_ (fun hHeldX => ?_)
          · exact ⟨H9.out.mapAt, X9.out⟩
          clear hK K hHeld
          rename _ => hHeld
          simp only [Act.put]
          refine wpAnyH_done (by kernel_rfl) ?_ _
          refine NoPanic.normal ?_
          go_wp2
          go_ret
          exact ⟨false, _, rfl, SeIs.less H9.out (fun _ h => .inl (.inl h)) (H.out.calls.only Q9.out (fun _ h => h)), Q9.out, (by (try rw [hres]); exact ⟨rfl, e1, e2, e3.trans (by simp [zeroF]), by have := HCO.out; simp only at e4 ⊢; omega⟩)⟩

end Go.Proofs.Ythngehpmoiojfaa
