/- Layer 7 (package hist): End of a call that didn't end. -/
import Derived.Test.YtjkabbabhfipbaaEndIs7
import Derived.Deep.RegionHeld3
import Derived.Deep.Cut
import Derived.BigCall
import Derived.BigGuard
namespace Go.Proofs.Ytjkabbabhfipbaa
open Go.RowKit

theorem abox_S {w : World} {X : Nat} {a : AnZ} (h : Blk 36 w X (anV a)) : w.cell? ⟨X, 0, none⟩ = some (numV a.e) ∧ w.cell? ⟨X, 1, none⟩ = some (numV a.a) ∧ w.cell? ⟨X, 2, none⟩ = some (numV a.b) ∧ w.cell? ⟨X, 3, none⟩ = some (.string a.t) ∧ w.cell? ⟨X, 4, none⟩ = some (.string a.p) ∧ w.cell? ⟨X, 5, none⟩ = some (.bool a.kept) :=
  ⟨h.at (o := 0) rfl, h.at (o := 1) rfl, h.at (o := 2) rfl, h.at (o := 3) rfl, h.at (o := 4) rfl, h.at (o := 5) rfl⟩
theorem below_draws7 {B : Nat} {a w : World} (h : Below B a w) (n : Nat) : Below B a (w.drewN n) := ⟨h.os, h.tape, h.output, h.size, h.block⟩
structure EndTo (base Bl : Nat) (L : List CallZ) (now : Nat) (cv mv : Value) (w : World) (e : Ending) (w' : World) : Prop where
  told : e = .returned (.bool true)
  log : LogIs w' base Bl L now cv mv
  only : Only (LogBlk Bl cv mv) w w'
/-- On the way. -/
structure EMid (w0 w : World) (base Bl g X i : Nat) (L : List CallZ) (now : Nat) (cv mv : Value) (a : AnZ) : Prop where
  log : LogIs w base Bl L now cv mv
  box : Blk 36 w X (anV a)
  only : Only (LogBlk Bl cv mv) w0 w
  x0 : w0.heap.size ≤ X
  lt : ∀ k, LogBlk Bl cv mv k → k < w0.heap.size
  og : cv.ownBlock = some g
  th : ∀ o m, o + m ≤ 15 → w.there g (i * 15 + o) m
theorem EMid.start {w w2 : World} {base Bl g i now : Nat} {L : List CallZ} {cv mv : Value} {a : AnZ} {c : CallZ} (hc : L[i]? = some c) (h : LogIs w base Bl L now cv mv) (og : cv.ownBlock = some g) (hb : Below (w.heap.size + 1) (w.alloc (.cells (anV a).toArray 36)) w2) :
    EMid w w2 base Bl g w.heap.size i L now cv mv a := by
  have e1 : (w.alloc (.cells (anV a).toArray 36)).heap.size = w.heap.size + 1 := by simp
  have o1 : Only (fun _ => False) w (w.alloc (.cells (anV a).toArray 36)) := (Only.refl _ w).alloc _
  have h1 := h.only o1 (fun _ _ => id)
  have h2 := h1.below (by rw [e1]; exact hb)
  have o2 : Only (fun k => w.heap.size + 1 ≤ k) (w.alloc (.cells (anV a).toArray 36)) w2 := Only.of_below (by rw [e1]; exact hb) _
  refine ⟨h2, (Blk.new (l := anV a)).below hb (Nat.lt_succ_self _), (o1.mono (fun _ _ h => h.elim)).step o2 (fun i h1 h2 => by omega), Nat.le_refl _, fun k hk => h.lt hk, og, (call_there h2.row rfl og hc).2⟩
theorem EMid.moment {w0 w w' : World} {base Bl g X i now : Nat} {L : List CallZ} {cv mv : Value} {a : AnZ} {c : CallZ} (h : EMid w0 w base Bl g X i L now cv mv a) (hc : L[i]? = some c) (hb : Blk 59 w' Bl [cv, mv, .int .i64 ((now + 1 : Nat) : Int)]) (ho : Only (· = Bl) w w') : EMid w0 w' base Bl g X i L (now + 1) cv mv a := by
  have hr := own_only h.log.row ho (fun k hk e => h.log.apart.1 k hk e.symm)
  have hX : X ≠ Bl := fun e => by have := h.lt Bl (.inl rfl); have := h.x0; omega
  exact ⟨⟨hb, hr, h.log.beg.only ho (fun b hm e => h.log.apart.2.1 b hm e.symm)⟩, h.box.only ho hX, h.only.step ho (fun _ _ e => .inl e), h.x0, h.lt, h.og, (call_there hr rfl h.og hc).2⟩
/-- The call's answer is written, its moment isn't yet. -/
structure EWrote (w0 w : World) (base Bl g X i : Nat) (L : List CallZ) (now : Nat) (cv mv : Value) (a : AnZ) (c : CallZ) : Prop where
  box : Blk 36 w X (anV a)
  cell : ∃ u, w.cell? ⟨g, i * 15 + 14, none⟩ = some u ∧ w.frozen? ⟨g, i * 15 + 14, none⟩ = false
  fin : EMid w0 (w.setCell ⟨g, i * 15 + 14, none⟩ (numV now)) base Bl g X i (L.set i (endC c a now)) now cv mv a
theorem cntZ_set {L : List CallZ} {i : Nat} {c : CallZ} (hc : L[i]? = some c) (a : AnZ) (t : Int) : cntZ (L.set i (endC c a t)) = cntZ L := by
  have e : (L.set i (endC c a t)).map CallZ.th = L.map CallZ.th := by
    obtain ⟨hi, rfl⟩ := List.getElem?_eq_some_iff.1 hc
    apply List.ext_getElem?
    intro k
    by_cases hk : i = k
    · subst hk
      simp [hi, endC]
    · simp [List.getElem?_set_ne hk]
  have hm : ∀ (M : List CallZ) (x : Int), cntZ M x = (M.map CallZ.th).countP (fun y => y == x) := fun M x => by unfold cntZ; rw [List.countP_map]; rfl
  funext x
  rw [hm, hm, e]
theorem EMid.wrote {w0 w w5 : World} {base Bl g X i now : Nat} {L : List CallZ} {cv mv : Value} {a : AnZ} {c : CallZ} (h : EMid w0 w base Bl g X i L now cv mv a) (hc : L[i]? = some c) (e5 : w.setCells g (i * 15 + 7) (anV a) = w5) : EWrote w0 w5 base Bl g X i L now cv mv a c := by
  have hgB : g ≠ Bl := fun e => h.log.apart.1 g h.og e.symm
  have hgX : g ≠ X := fun e => by have := h.lt g (.inr (.inl h.og)); have := h.x0; omega
  have o5 : Only (· = g) w w5 := e5 ▸ only_setCells (S := (· = g)) rfl (anV a) _ w w (Only.refl _ _)
  have r5 : w5.ownsRow base _ _ _ _ _ := e5 ▸ own_setCells (g := g) h.og (anV a) (i * 15 + 7) w _ h.log.row
  have t5 : w5.there g (i * 15 + 14) 1 := e5 ▸ World.there_setCells (h.th 14 1 (by decide)) g _ _
  have hx5 := h.box.only o5 (fun e => hgX e.symm)
  obtain ⟨u, hu⟩ := Option.isSome_iff_exists.1 (t5 0 (by decide)).1
  have o6 : Only (· = g) w5 (w5.setCell ⟨g, i * 15 + 14, none⟩ (numV now)) := (Only.refl (· = g) w5).setCell (p := ⟨g, i * 15 + 14, none⟩) (.inl rfl) _
  have o56 := o5.trans o6
  have r6 := own_set (k := i * 15 + 14) r5 h.og (numV now)
  rw [row_end hc a now] at r6
  have hbr : ∀ b, mv = .map (some b) → ¬ b = g := fun b hb e => h.log.apart.2.2 g b h.og hb e.symm
  have hlen : (L.set i (endC c a now)).length = L.length := List.length_set
  have hs : (L.set i (endC c a now))[i]? = some (endC c a now) := by rw [List.getElem?_set_self (List.getElem?_eq_some_iff.1 hc).1]
  refine ⟨hx5, ⟨u, hu, (t5 0 (by decide)).2⟩, ⟨?_, hx5.only o6 (fun e => hgX e.symm), ?_, h.x0, h.lt, h.og, ?_⟩⟩
  · refine ⟨?_, ?_, ?_⟩
    · exact h.log.blk.only o56 (fun e => hgB e.symm)
    · rw [hlen]; exact r6
    · rw [hlen, cntZ_set hc]; exact h.log.beg.only o56 hbr
  · exact h.only.step o56 (fun _ _ e => .inr (.inl (by rw [e]; exact h.og)))
  · exact (call_there r6 hlen.symm h.og hs).2
set_option maxHeartbeats 4000000 in
set_option maxRecDepth 100000 in
theorem log_End_yes {w : World} {base Bl now : Nat} {L : List CallZ} {cv mv : Value} (h : LogIs w base Bl L now cv mv) (i : Nat) {c : CallZ} (hc : L[i]? = some c) (hto : c.to = 0) (hnow : now ≤ 1000000) (hL : L.length ≤ 1000000) (a : AnZ) :
    Calls Try.prog 10 #[.pointer (some ⟨Bl, 0, none⟩), .int .i64 ((i : Int) + 1), anA a] w fun e w' => EndTo base Bl (L.set i (endC c a ((now + 1 : Nat) : Int))) (now + 1) cv mv w e w' := by
  have hi : i < L.length := (List.getElem?_eq_some_iff.1 hc).1
  obtain ⟨av, nv, rfl⟩ := own_form h.row
  obtain ⟨g, rfl⟩ : ∃ g, av = some ⟨g, 0, none⟩ := by
    rcases h.row.2 with ⟨e, e2⟩ | ⟨g, cap, cur, e, _⟩
    · omega
    · cases e; exact ⟨g, rfl⟩
  have h1 := h.only ((Only.refl (fun _ => False) w).alloc (.cells (anV a).toArray 36)) (fun _ _ => id)
  have c0 := h1.blk.at (o := 0) rfl
  obtain ⟨k0, k1, k2, k3, k4, k5, k6, k7, k8, k9, k10, k11, k12, k13, k14⟩ := call_cells (call_there h1.row rfl rfl hc).1
  have hto1 : (c.to == 0) = true := by simpa using hto
  have HC := Lib.hid hc
  have H0 := Lib.hid h
  have hlen : Hid ((L.set i (endC c a ((now + 1 : Nat) : Int))).length = L.length) := Lib.hid List.length_set
  clear h h1 hc hto
  go_enter Try.func10, Try.ntmps10
  go_wp2_with fail
  refine (hist_open c _).mono ?_
  rintro e w' ⟨rfl, rfl⟩
  have D1 := Lib.hid (EMid.start HC.out H0.out rfl (w2 := (w.alloc (.cells (anV a).toArray 36)).alloc (.cells (callV c).toArray 42)) ((Below.refl _ _).alloc (by simp) _))
  have D2 := Lib.hid (EMid.start HC.out H0.out rfl (w2 := ((w.alloc (.cells (anV a).toArray 36)).alloc (.cells (callV c).toArray 42)).drew) (below_draws7 ((Below.refl _ _).alloc (by simp) _) 1))
  generalize ((w.alloc (.cells (anV a).toArray 36)).alloc (.cells (callV c).toArray 42)) = w2 at D1 D2 ⊢
  clear k0 k1 k2 k3 k4 k5 k6 k7 k8 k9 k10 k11 k12 k13 k14 c0
  have c0 := D1.out.log.blk.at (o := 0) rfl
  go_wp2_with fail
  refine wp_region_noPanic ?_
  refine wp_region_held_drew (S := (fun w' => w'.cell? ⟨w.heap.size, 0, none⟩ = some (numV a.e) ∧ w'.cell? ⟨w.heap.size, 1, none⟩ = some (numV a.a) ∧ w'.cell? ⟨w.heap.size, 2, none⟩ = some (numV a.b) ∧ w'.cell? ⟨w.heap.size, 3, none⟩ = some (.string a.t) ∧ w'.cell? ⟨w.heap.size, 4, none⟩ = some (.string a.p) ∧ w'.cell? ⟨w.heap.size, 5, none⟩ = some (.bool a.kept))) (by kernel_rfl) ?_ (fun hHeld => ?_)
  · first | exact abox_S D4.out.box | exact abox_S D2.out.box
  refine wpAnyH_take (i := 0) (oi := ⟨some 42, _, _, _, _, _⟩) (v := ?_) rfl (by kernel_rfl) (by kernel_rfl) (by kernel_rfl) (fun _ _ _ h => h) (Or.inl ⟨by rfl, ?_⟩) (by assumption) ?_
  rotate_left
  · (intro w hSw; (try dsimp only at hSw); go_simp; try with_reducible rfl)
  try simp only [Act.put, List.setIfInBounds_toArray, List.set_cons_zero, List.set_cons_succ]
  refine wpAnyH_take (i := 1) (oi := ⟨some 43, _, _, _, _, _⟩) (v := ?_) rfl (by kernel_rfl) (by kernel_rfl) (by kernel_rfl) (fun _ _ _ h => h) (Or.inl ⟨by rfl, ?_⟩) (by assumption) ?_
  rotate_left
  · (intro w hSw; (try dsimp only at hSw); go_simp; try with_reducible rfl)
  try simp only [Act.put, List.setIfInBounds_toArray, List.set_cons_zero, List.set_cons_succ]
  refine wpAnyH_take (i := 2) (oi := ⟨some 44, _, _, _, _, _⟩) (v := ?_) rfl (by kernel_rfl) (by kernel_rfl) (by kernel_rfl) (fun _ _ _ h => h) (Or.inl ⟨by rfl, ?_⟩) (by assumption) ?_
  rotate_left
  · (intro w hSw; (try dsimp only at hSw); go_simp; try with_reducible rfl)
  try simp only [Act.put, List.setIfInBounds_toArray, List.set_cons_zero, List.set_cons_succ]
  refine wpAnyH_take (i := 3) (oi := ⟨some 45, _, _, _, _, _⟩) (v := ?_) rfl (by kernel_rfl) (by kernel_rfl) (by kernel_rfl) (fun _ _ _ h => h) (Or.inl ⟨by rfl, ?_⟩) (by assumption) ?_
  rotate_left
  · (intro w hSw; (try dsimp only at hSw); go_simp; try with_reducible rfl)
  try simp only [Act.put, List.setIfInBounds_toArray, List.set_cons_zero, List.set_cons_succ]
  refine wpAnyH_ready (rs := [4]) (by kernel_rfl) (by simp) ?_
  refine AllReadyH.cons (o := ⟨some 46, _, _, _, _, _⟩) rfl (fun K hK => ?_) AllReadyH.nil
  go_simp
  refine (log_moment' hnow D2.out.log.blk).mono ?_
  rintro e w4 ⟨rfl, hb4, ho4⟩
  have D4 := Lib.hid (D2.out.moment HC.out hb4 ho4)
  clear hb4 ho4
  go_wp2_with fail
  refine hK.out _ _ ?_ (fun hHeldX => ?_)
  · first | exact abox_S D4.out.box | exact abox_S D2.out.box
  clear hK K hHeld
  rename _ => hHeld
  try simp only [Act.put, List.setIfInBounds_toArray, List.set_cons_zero, List.set_cons_succ]
  refine wpAnyH_take (i := 5) (oi := ⟨some 47, _, _, _, _, _⟩) (v := ?_) rfl (by kernel_rfl) (by kernel_rfl) (by kernel_rfl) (fun _ _ _ h => h) (Or.inl ⟨by rfl, ?_⟩) (by assumption) ?_
  rotate_left
  · (intro w hSw; (try dsimp only at hSw); go_simp; try with_reducible rfl)
  try simp only [Act.put, List.setIfInBounds_toArray, List.set_cons_zero, List.set_cons_succ]
  refine wpAnyH_take (i := 6) (oi := ⟨some 48, _, _, _, _, _⟩) (v := ?_) rfl (by kernel_rfl) (by kernel_rfl) (by kernel_rfl) (fun _ _ _ h => h) (Or.inl ⟨by rfl, ?_⟩) (by assumption) ?_
  rotate_left
  · (intro w hSw; (try dsimp only at hSw); go_simp; try with_reducible rfl)
  try simp only [Act.put, List.setIfInBounds_toArray, List.set_cons_zero, List.set_cons_succ]
  refine wpAnyH_ready (rs := [7]) (by kernel_rfl) (by simp) ?_
  refine AllReadyH.cons (o := ⟨none, _, _, _, _, _⟩) rfl (fun K hK => ?_) AllReadyH.nil
  refine step_store_mid rfl 36 (.tmp 48) (.tmp 44) rfl g (i * 15 + 7) (anV a).toArray rfl rfl (D4.out.th 7 6 (by decide)) (by kernel_rfl) (by simp [anV, Value.oneCell']) ?_
  obtain ⟨w5, e5⟩ : ∃ w5, w4.setCells g (i * 15 + 7) (anV a) = w5 := ⟨_, rfl⟩
  rw [show (anV a).toArray.toList = anV a from rfl, e5]
  have D5 := Lib.hid (D4.out.wrote HC.out e5)
  obtain ⟨u5, c5, f5⟩ := D5.out.cell
  clear e5
  refine hK.out _ _ ?_ (fun hHeldX => ?_)
  · exact abox_S D5.out.box
  clear hK K hHeld
  rename _ => hHeld
  simp only [Act.put]
  refine wpAnyH_take (i := 8) (oi := ⟨some 49, _, _, _, _, _⟩) (v := ?_) rfl (by kernel_rfl) (by kernel_rfl) (by kernel_rfl) (fun _ _ _ h => h) (Or.inl ⟨by rfl, ?_⟩) (by assumption) ?_
  rotate_left
  · (intro w hSw; (try dsimp only at hSw); go_simp; try with_reducible rfl)
  try simp only [Act.put, List.setIfInBounds_toArray, List.set_cons_zero, List.set_cons_succ]
  refine wpAnyH_take (i := 9) (oi := ⟨some 50, _, _, _, _, _⟩) (v := ?_) rfl (by kernel_rfl) (by kernel_rfl) (by kernel_rfl) (fun _ _ _ h => h) (Or.inl ⟨by rfl, ?_⟩) (by assumption) ?_
  rotate_left
  · (intro w hSw; (try dsimp only at hSw); go_simp; try with_reducible rfl)
  try simp only [Act.put, List.setIfInBounds_toArray, List.set_cons_zero, List.set_cons_succ]
  refine wpAnyH_ready (rs := [10]) (by kernel_rfl) (by simp) ?_
  refine AllReadyH.cons (o := ⟨none, _, _, _, _, _⟩) rfl (fun K hK => ?_) AllReadyH.nil
  go_simp
  refine hK.out _ _ ?_ (fun hHeldX => ?_)
  · exact abox_S D5.out.fin.box
  clear hK K hHeld
  rename _ => hHeld
  try simp only [Act.put, List.setIfInBounds_toArray, List.set_cons_zero, List.set_cons_succ]
  refine wpAnyH_done (by kernel_rfl) ?_ _
  refine NoPanic.normal ?_
  go_wp2
  go_ret
  exact ⟨rfl, D5.out.fin.log, D5.out.fin.only⟩

end Go.Proofs.Ytjkabbabhfipbaa
