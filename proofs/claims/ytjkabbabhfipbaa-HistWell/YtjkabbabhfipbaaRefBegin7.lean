/- Layer 7: the document's log (bellmanref07): Begin. -/
import Derived.Test.YtjkabbabhfipbaaRefLog7
import Derived.Deep.RegionHeld3
import Derived.Deep.Cut
namespace Go.Proofs.Ytjkabbabhfipbaa
open Go.RowKit

theorem rbox_S {w : World} {X Bx : Nat} {o : OpZ} {xv : Value} {now : Nat} (h : Blk 31 w X (opV o)) (h' : Blk 29 w Bx [xv, .int .i64 ((now + 1 : Nat) : Int)]) : w.cell? ⟨X, 0, none⟩ = some (numV o.k) ∧ w.cell? ⟨X, 1, none⟩ = some (numV o.s) ∧ w.cell? ⟨X, 2, none⟩ = some (.string o.t) ∧ w.cell? ⟨X, 3, none⟩ = some (.string o.p) ∧ w.cell? ⟨X, 4, none⟩ = some (.bool o.keep) ∧ w.cell? ⟨Bx, 1, none⟩ = some (.int .i64 ((now : Int) + 1)) :=
  ⟨h.at (o := 0) rfl, h.at (o := 1) rfl, h.at (o := 2) rfl, h.at (o := 3) rfl, h.at (o := 4) rfl, h'.at (o := 1) rfl⟩
set_option maxHeartbeats 4000000 in
set_option maxRecDepth 100000 in
theorem ref_Begin {w : World} {base Bx now : Nat} {L : List CallZ} {xv : Value} (h : RefIs w base Bx L now xv) (hbase : base ≤ w.heap.size) (hnow : now ≤ 1000000) (hL : L.length ≤ 100000) (th : Int) (o : OpZ) :
    Calls Try.prog 9 #[.pointer (some ⟨Bx, 0, none⟩), .int .i64 th, opA o] w fun e w' => RBeginTo base Bx L now xv th o w e w' := by
  obtain ⟨i0, hi, hz0, hz1, hz2⟩ := info_at infoCall
  obtain ⟨av, nv, hxv⟩ := own_form h.row
  subst hxv
  have D0 := Lib.hid (RMid.start h o)
  have D1 := Lib.hid (D0.out.now (now + 1))
  have c1 := D0.out.log.blk.at (o := 1) rfl
  have f1 := D0.out.log.blk.frozen 1
  clear h
  go_enter Try.func9, Try.ntmps9
  go_wp2_with fail
  rw [show (.int .i64 ((now : Int) + 1) : Value) = .int .i64 ((now + 1 : Nat) : Int) from rfl]
  generalize ((w.alloc (.cells (opV o).toArray 31)).setCell ⟨Bx, 1, none⟩ (.int .i64 ((now + 1 : Nat) : Int))) = w1 at D1 ⊢
  clear c1 f1 D0
  have c0 := D1.out.log.blk.at (o := 0) rfl
  go_loopw [7, 8] (fun p i wr => ∃ (k : Nat), k ≤ L.length ∧ i = .int .i64 k ∧ p = .int .i64 (cntZ (L.take k) th : Nat) ∧ w1 = wr) (fun _ i _ => L.length - (intOf i).toNat)
  case atStart => exact ⟨0, Nat.zero_le _, rfl, rfl, rfl⟩
  case round =>
    obtain ⟨k, hk, rfl, rfl, rfl⟩ := hrel
    by_cases hlt : k < L.length
    · obtain ⟨a', c', e', hr⟩ := recs_own (f := callV) callV_len D1.out.log.row
      cases e'
      obtain ⟨b, off, rfl, hb, hrg⟩ := hr.range hlt
      have k0 := (call_cells hrg).1
      have hcn := cntZ_take hlt th
      have hle := cntZ_le (L.take k) th
      rw [List.length_take] at hle
      generalize L[k].th = t0 at k0 hcn
      have HC := Lib.hid hcn
      clear hcn hrg hr
      generalize cntZ (L.take k) th = m at HC hle ⊢
      by_cases ht : t0 = th
      · have ht1 : (t0 == th) = true := by simpa using ht
        rw [if_pos ht] at HC
        clear ht
        go_wp2
        go_roundw
        case rel => exact ⟨k + 1, by omega, by go_num, by rw [HC.out]; go_num, by trivial⟩
        case measure => simp [intOf]; omega
      · have ht1 : (t0 == th) = false := by simpa using ht
        rw [if_neg ht] at HC
        clear ht
        go_wp2
        go_roundw
        case rel => exact ⟨k + 1, by omega, by go_num, by rw [HC.out], by trivial⟩
        case measure => simp [intOf]; omega
    · obtain rfl : k = L.length := by omega
      rw [List.take_length]
      have D2 := Lib.hid D1.out.drew
      have c2 := D2.out.log.blk.at (o := 0) rfl
      have c2a : ∀ ob, (w1.drew.alloc ob).cell? ⟨Bx, 0, none⟩ = some (.slice av L.length nv) := fun ob => (D2.out.log.blk.alloc ob).at (o := 0) rfl
      have c2b : ∀ ob, (w1.alloc ob).drew.cell? ⟨Bx, 0, none⟩ = some (.slice av L.length nv) := fun ob => (D2.out.log.blk.alloc ob).at (o := 0) rfl
      go_wp2_with fail
      refine wp_region_noPanic ?_
      refine wp_region_held_drew (S := (fun w' => w'.cell? ⟨w.heap.size, 0, none⟩ = some (numV o.k) ∧ w'.cell? ⟨w.heap.size, 1, none⟩ = some (numV o.s) ∧ w'.cell? ⟨w.heap.size, 2, none⟩ = some (.string o.t) ∧ w'.cell? ⟨w.heap.size, 3, none⟩ = some (.string o.p) ∧ w'.cell? ⟨w.heap.size, 4, none⟩ = some (.bool o.keep) ∧ w'.cell? ⟨Bx, 1, none⟩ = some (.int .i64 ((now : Int) + 1)))) (by kernel_rfl) ?_ (fun hHeld => ?_)
      · exact rbox_S D2.out.box D2.out.log.blk
      refine wpAnyH_take (i := 0) (oi := ⟨some 37, _, _, _, _, _⟩) (v := ?_) rfl (by kernel_rfl) (by kernel_rfl) (by kernel_rfl) (fun _ _ _ h => h) (Or.inl ⟨by rfl, ?_⟩) (by assumption) ?_
      rotate_left
      · (intro w hSw; (try dsimp only at hSw); go_simp; try with_reducible rfl)
      try simp only [Act.put, List.setIfInBounds_toArray, List.set_cons_zero, List.set_cons_succ]
      refine wpAnyH_take (i := 1) (oi := ⟨some 38, _, _, _, _, _⟩) (v := ?_) rfl (by kernel_rfl) (by kernel_rfl) (by kernel_rfl) (fun _ _ _ h => h) (Or.inl ⟨by rfl, ?_⟩) (by assumption) ?_
      rotate_left
      · (intro w hSw; (try dsimp only at hSw); go_simp; try with_reducible rfl)
      try simp only [Act.put, List.setIfInBounds_toArray, List.set_cons_zero, List.set_cons_succ]
      refine wpAnyH_take (i := 2) (oi := ⟨some 39, _, _, _, _, _⟩) (v := ?_) rfl (by kernel_rfl) (by kernel_rfl) (by kernel_rfl) (fun _ _ _ h => h) (Or.inl ⟨by rfl, ?_⟩) (by assumption) ?_
      rotate_left
      · (intro w hSw; (try dsimp only at hSw); go_simp; try with_reducible rfl)
      try simp only [Act.put, List.setIfInBounds_toArray, List.set_cons_zero, List.set_cons_succ]
      refine wpAnyH_take (i := 3) (oi := ⟨some 40, _, _, _, _, _⟩) (v := ?_) rfl (by kernel_rfl) (by kernel_rfl) (by kernel_rfl) (fun _ _ _ h => h) (Or.inl ⟨by rfl, ?_⟩) (by assumption) ?_
      rotate_left
      · (intro w hSw; (try dsimp only at hSw); go_simp; try with_reducible rfl)
      try simp only [Act.put, List.setIfInBounds_toArray, List.set_cons_zero, List.set_cons_succ]
      refine wpAnyH_take (i := 5) (oi := ⟨some 42, _, _, _, _, _⟩) (v := ?_) rfl (by kernel_rfl) (by kernel_rfl) (by kernel_rfl) (fun _ _ _ h => h) (Or.inl ⟨by rfl, ?_⟩) (by assumption) ?_
      rotate_left
      · (intro w hSw; (try dsimp only at hSw); go_simp; try with_reducible rfl)
      try simp only [Act.put, List.setIfInBounds_toArray, List.set_cons_zero, List.set_cons_succ]
      refine wpAnyH_take (i := 6) (oi := ⟨some 43, _, _, _, _, _⟩) (v := ?_) rfl (by kernel_rfl) (by kernel_rfl) (by kernel_rfl) (fun _ _ _ h => h) (Or.inl ⟨by rfl, ?_⟩) (by assumption) ?_
      rotate_left
      · (intro w hSw; (try dsimp only at hSw); go_simp; try with_reducible rfl)
      try simp only [Act.put, List.setIfInBounds_toArray, List.set_cons_zero, List.set_cons_succ]
      refine wpAnyH_take (i := 7) (oi := ⟨some 44, _, _, _, _, _⟩) (v := ?_) rfl (by kernel_rfl) (by kernel_rfl) (by kernel_rfl) (fun _ _ _ h => h) (Or.inl ⟨by rfl, ?_⟩) (by assumption) ?_
      rotate_left
      · (intro w hSw; (try dsimp only at hSw); go_simp; try with_reducible rfl)
      try simp only [Act.put, List.setIfInBounds_toArray, List.set_cons_zero, List.set_cons_succ]
      refine wpAnyH_take (i := 8) (oi := ⟨some 45, _, _, _, _, _⟩) (v := ?_) rfl (by kernel_rfl) (by kernel_rfl) (by kernel_rfl) (fun _ _ _ h => h) (Or.inl ⟨by rfl, ?_⟩) (by assumption) ?_
      rotate_left
      · (intro w hSw; (try dsimp only at hSw); go_simp; try with_reducible rfl)
      try simp only [Act.put, List.setIfInBounds_toArray, List.set_cons_zero, List.set_cons_succ]
      refine wpAnyH_take (i := 9) (oi := ⟨some 46, _, _, _, _, _⟩) (v := ?_) rfl (by kernel_rfl) (by kernel_rfl) (by kernel_rfl) (fun _ _ _ h => h) (Or.inl ⟨by rfl, ?_⟩) (by assumption) ?_
      rotate_left
      · (intro w hSw; (try dsimp only at hSw); go_simp; try with_reducible rfl)
      try simp only [Act.put, List.setIfInBounds_toArray, List.set_cons_zero, List.set_cons_succ]
      refine wpAnyH_take (i := 10) (oi := ⟨some 47, _, _, _, _, _⟩) (v := ?_) rfl (by kernel_rfl) (by kernel_rfl) (by kernel_rfl) (fun _ _ _ h => h) (Or.inl ⟨by rfl, ?_⟩) (by assumption) ?_
      rotate_left
      · (intro w hSw; (try dsimp only at hSw); go_simp; try with_reducible rfl)
      try simp only [Act.put, List.setIfInBounds_toArray, List.set_cons_zero, List.set_cons_succ]
      refine wpAnyH_take (i := 11) (oi := ⟨some 48, _, _, _, _, _⟩) (v := ?_) rfl (by kernel_rfl) (by kernel_rfl) (by kernel_rfl) (fun _ _ _ h => h) (Or.inl ⟨by rfl, ?_⟩) (by assumption) ?_
      rotate_left
      · (intro w hSw; (try dsimp only at hSw); go_simp; try with_reducible rfl)
      try simp only [Act.put, List.setIfInBounds_toArray, List.set_cons_zero, List.set_cons_succ]
      refine wpAnyH_take (i := 12) (oi := ⟨some 49, _, _, _, _, _⟩) (v := ?_) rfl (by kernel_rfl) (by kernel_rfl) (by kernel_rfl) (fun _ _ _ h => h) (Or.inl ⟨by rfl, ?_⟩) (by assumption) ?_
      rotate_left
      · (intro w hSw; (try dsimp only at hSw); go_simp; try with_reducible rfl)
      try simp only [Act.put, List.setIfInBounds_toArray, List.set_cons_zero, List.set_cons_succ]
      refine wpAnyH_ready (rs := [4, 13]) (by kernel_rfl) (by simp) ?_
      refine AllReadyH.cons (o := ⟨some 41, _, _, _, _, _⟩) rfl (fun K hK => ?_) (AllReadyH.cons (o := ⟨some 50, _, _, _, _, _⟩) rfl (fun K hK => ?_) AllReadyH.nil)
      · go_simp
        refine hK.out _ _ ?_ (fun hHeldX => ?_)
        · first | exact rbox_S (D2.out.box.alloc _) (D2.out.log.blk.alloc _) | exact rbox_S D2.out.box D2.out.log.blk
        clear hK K hHeld
        rename _ => hHeld
        try simp only [Act.put, List.setIfInBounds_toArray, List.set_cons_zero, List.set_cons_succ]
        refine wpAnyH_ready (rs := [13]) (by kernel_rfl) (by simp) ?_
        refine AllReadyH.cons (o := ⟨some 50, _, _, _, _, _⟩) rfl (fun K hK => ?_) AllReadyH.nil
        go_simp
        refine hK.out _ _ ?_ (fun hHeldX => ?_)
        · exact rbox_S (D2.out.box.alloc _) (D2.out.log.blk.alloc _)
        clear hK K hHeld
        rename _ => hHeld
        try simp only [Act.put, List.setIfInBounds_toArray, List.set_cons_zero, List.set_cons_succ]
        refine wpAnyH_ready (rs := [14]) (by kernel_rfl) (by simp) ?_
        refine AllReadyH.cons (o := ⟨some 51, _, _, _, _, _⟩) rfl (fun K hK => ?_) AllReadyH.nil
        refine step_append_lies _ rfl (.tmp 41) (.tmp 50) 27 rfl base 42 i0 (callA default) 15 152 Try.underlying27 hi hz0 hz1 hz2 rfl (by decide) _ _ _ rfl (D2.out.log.row.alloc _) ⟨w1.drew.heap.size, 0, none⟩ 1 1 (callV (beganZ L now th o)) rfl rfl (World.news_of_block (Blk.new (l := callV (beganZ L now th o)))) (by simp [callV, Value.oneCell']) (by decide) (by simp only [maxLen]; omega) (by omega) (by have := D2.out.only.size; simp at this ⊢; omega) (w1.drew.heap.size + 1) (by simp) ?_
        intro g5 cap5 w5 hown hgrow hlie hlt5
        obtain ⟨b5, x5, r5⟩ := D2.out.done hgrow hlie hown
        have c5 := b5.at (o := 0) rfl
        have f5 := b5.frozen 0
        have E := Lib.hid r5
        have X5 := Lib.hid (And.intro x5 b5)
        clear b5 x5 r5 hown hgrow hlie hlt5
        refine hK.out _ _ ?_ (fun hHeldX => ?_)
        · exact rbox_S X5.out.1 X5.out.2
        clear hK K hHeld
        rename _ => hHeld
        try simp only [Act.put, List.setIfInBounds_toArray, List.set_cons_zero, List.set_cons_succ]
        refine wpAnyH_take (i := 15) (oi := ⟨some 52, _, _, _, _, _⟩) (v := ?_) rfl (by kernel_rfl) (by kernel_rfl) (by kernel_rfl) (fun _ _ _ h => h) (Or.inl ⟨by rfl, ?_⟩) (by assumption) ?_
        rotate_left
        · (intro w hSw; (try dsimp only at hSw); go_simp; try with_reducible rfl)
        try simp only [Act.put, List.setIfInBounds_toArray, List.set_cons_zero, List.set_cons_succ]
        refine wpAnyH_take (i := 16) (oi := ⟨some 53, _, _, _, _, _⟩) (v := ?_) rfl (by kernel_rfl) (by kernel_rfl) (by kernel_rfl) (fun _ _ _ h => h) (Or.inl ⟨by rfl, ?_⟩) (by assumption) ?_
        rotate_left
        · (intro w hSw; (try dsimp only at hSw); go_simp; try with_reducible rfl)
        try simp only [Act.put, List.setIfInBounds_toArray, List.set_cons_zero, List.set_cons_succ]
        refine wpAnyH_ready (rs := [17]) (by kernel_rfl) (by simp) ?_
        refine AllReadyH.cons (o := ⟨none, _, _, _, _, _⟩) rfl (fun K hK => ?_) AllReadyH.nil
        go_simp
        refine hK.out _ _ ?_ (fun hHeldX => ?_)
        · exact rbox_S E.out.1 E.out.2.1
        clear hK K hHeld
        rename _ => hHeld
        try simp only [Act.put, List.setIfInBounds_toArray, List.set_cons_zero, List.set_cons_succ]
        refine wpAnyH_done (by kernel_rfl) ?_ _
        refine NoPanic.normal ?_
        have c6 := E.out.2.1.at (o := 0) rfl
        go_wp2
        go_ret
        exact ⟨rfl, ⟨_, E.out.2.2.1, E.out.2.2.2.1⟩, E.out.2.2.2.2⟩
      · go_simp
        refine hK.out _ _ ?_ (fun hHeldX => ?_)
        · exact rbox_S (D2.out.box.alloc _) (D2.out.log.blk.alloc _)
        clear hK K hHeld
        rename _ => hHeld
        try simp only [Act.put, List.setIfInBounds_toArray, List.set_cons_zero, List.set_cons_succ]
        refine wpAnyH_ready (rs := [4]) (by kernel_rfl) (by simp) ?_
        refine AllReadyH.cons (o := ⟨some 41, _, _, _, _, _⟩) rfl (fun K hK => ?_) AllReadyH.nil
        go_simp
        refine hK.out _ _ ?_ (fun hHeldX => ?_)
        · first | exact rbox_S (D2.out.box.alloc _) (D2.out.log.blk.alloc _) | exact rbox_S D2.out.box D2.out.log.blk
        clear hK K hHeld
        rename _ => hHeld
        try simp only [Act.put, List.setIfInBounds_toArray, List.set_cons_zero, List.set_cons_succ]
        refine wpAnyH_ready (rs := [14]) (by kernel_rfl) (by simp) ?_
        refine AllReadyH.cons (o := ⟨some 51, _, _, _, _, _⟩) rfl (fun K hK => ?_) AllReadyH.nil
        refine step_append_lies _ rfl (.tmp 41) (.tmp 50) 27 rfl base 42 i0 (callA default) 15 152 Try.underlying27 hi hz0 hz1 hz2 rfl (by decide) _ _ _ rfl (D2.out.log.row.alloc _) ⟨w1.drew.heap.size, 0, none⟩ 1 1 (callV (beganZ L now th o)) rfl rfl (World.news_of_block (Blk.new (l := callV (beganZ L now th o)))) (by simp [callV, Value.oneCell']) (by decide) (by simp only [maxLen]; omega) (by omega) (by have := D2.out.only.size; simp at this ⊢; omega) (w1.drew.heap.size + 1) (by simp) ?_
        intro g5 cap5 w5 hown hgrow hlie hlt5
        obtain ⟨b5, x5, r5⟩ := D2.out.done hgrow hlie hown
        have c5 := b5.at (o := 0) rfl
        have f5 := b5.frozen 0
        have E := Lib.hid r5
        have X5 := Lib.hid (And.intro x5 b5)
        clear b5 x5 r5 hown hgrow hlie hlt5
        refine hK.out _ _ ?_ (fun hHeldX => ?_)
        · exact rbox_S X5.out.1 X5.out.2
        clear hK K hHeld
        rename _ => hHeld
        try simp only [Act.put, List.setIfInBounds_toArray, List.set_cons_zero, List.set_cons_succ]
        refine wpAnyH_take (i := 15) (oi := ⟨some 52, _, _, _, _, _⟩) (v := ?_) rfl (by kernel_rfl) (by kernel_rfl) (by kernel_rfl) (fun _ _ _ h => h) (Or.inl ⟨by rfl, ?_⟩) (by assumption) ?_
        rotate_left
        · (intro w hSw; (try dsimp only at hSw); go_simp; try with_reducible rfl)
        try simp only [Act.put, List.setIfInBounds_toArray, List.set_cons_zero, List.set_cons_succ]
        refine wpAnyH_take (i := 16) (oi := ⟨some 53, _, _, _, _, _⟩) (v := ?_) rfl (by kernel_rfl) (by kernel_rfl) (by kernel_rfl) (fun _ _ _ h => h) (Or.inl ⟨by rfl, ?_⟩) (by assumption) ?_
        rotate_left
        · (intro w hSw; (try dsimp only at hSw); go_simp; try with_reducible rfl)
        try simp only [Act.put, List.setIfInBounds_toArray, List.set_cons_zero, List.set_cons_succ]
        refine wpAnyH_ready (rs := [17]) (by kernel_rfl) (by simp) ?_
        refine AllReadyH.cons (o := ⟨none, _, _, _, _, _⟩) rfl (fun K hK => ?_) AllReadyH.nil
        go_simp
        refine hK.out _ _ ?_ (fun hHeldX => ?_)
        · exact rbox_S E.out.1 E.out.2.1
        clear hK K hHeld
        rename _ => hHeld
        try simp only [Act.put, List.setIfInBounds_toArray, List.set_cons_zero, List.set_cons_succ]
        refine wpAnyH_done (by kernel_rfl) ?_ _
        refine NoPanic.normal ?_
        have c6 := E.out.2.1.at (o := 0) rfl
        go_wp2
        go_ret
        exact ⟨rfl, ⟨_, E.out.2.2.1, E.out.2.2.2.1⟩, E.out.2.2.2.2⟩

end Go.Proofs.Ytjkabbabhfipbaa
