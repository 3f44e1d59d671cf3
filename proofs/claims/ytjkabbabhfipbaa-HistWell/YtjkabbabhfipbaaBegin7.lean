/- Layer 7 (package hist): Begin. -/
import Derived.Test.YtjkabbabhfipbaaLogIs7
import Derived.Deep.RegionHeld3
import Derived.BigCall
import Derived.BigGuard
namespace Go.Proofs.Ytjkabbabhfipbaa
open Go.RowKit

theorem box_S {w : World} {X : Nat} {o : OpZ} (h : Blk 31 w X (opV o)) : w.cell? ⟨X, 0, none⟩ = some (numV o.k) ∧ w.cell? ⟨X, 1, none⟩ = some (numV o.s) ∧ w.cell? ⟨X, 2, none⟩ = some (.string o.t) ∧ w.cell? ⟨X, 3, none⟩ = some (.string o.p) ∧ w.cell? ⟨X, 4, none⟩ = some (.bool o.keep) :=
  ⟨h.at (o := 0) rfl, h.at (o := 1) rfl, h.at (o := 2) rfl, h.at (o := 3) rfl, h.at (o := 4) rfl⟩
theorem log_Begin_nil (th : Int) (o : OpZ) (w : World) : Calls Try.prog 8 #[.pointer none, .int .i64 th, opA o] w fun e w' => e = .returned (.int .i64 0) ∧ w' = w.alloc (.cells (opV o).toArray 31) := by
  go_enter Try.func8, Try.ntmps8
  go_wp2
  go_ret
  exact ⟨rfl, rfl⟩
set_option maxHeartbeats 4000000 in
set_option maxRecDepth 100000 in
theorem log_Begin {w : World} {base Bl now : Nat} {L : List CallZ} {cv mv : Value} (h : LogIs w base Bl L now cv mv) (hbase : base ≤ w.heap.size) (hnow : now ≤ 1000000) (hL : L.length ≤ 100000) (th : Int) (hth : wf64 th) (o : OpZ) :
    Calls Try.prog 8 #[.pointer (some ⟨Bl, 0, none⟩), .int .i64 th, opA o] w fun e w' => BeginTo base Bl L now cv mv th o w e w' := by
  obtain ⟨i0, hi, hz0, hz1, hz2⟩ := info_at infoCall
  obtain ⟨av, nv, hcv⟩ := own_form h.row
  have H0 := Lib.hid h
  have D0 := Lib.hid (BMid.start h o)
  have c0 := D0.out.blk.at (o := 0) rfl
  clear h hcv av nv
  go_enter Try.func8, Try.ntmps8
  go_wp2_with fail
  refine wp_region_noPanic ?_
  refine wp_region_held_drew (S := (fun w' => w'.cell? ⟨w.heap.size, 0, none⟩ = some (numV o.k) ∧ w'.cell? ⟨w.heap.size, 1, none⟩ = some (numV o.s) ∧ w'.cell? ⟨w.heap.size, 2, none⟩ = some (.string o.t) ∧ w'.cell? ⟨w.heap.size, 3, none⟩ = some (.string o.p) ∧ w'.cell? ⟨w.heap.size, 4, none⟩ = some (.bool o.keep))) (by kernel_rfl) ?_ (fun hHeld => ?_)
  · first | exact box_S D4.out.box | exact box_S D3.out.box | exact box_S D0.out.box
  refine wpAnyH_take (i := 0) (oi := ⟨some 9, _, _, _, _, _⟩) (v := ?_) rfl (by kernel_rfl) (by kernel_rfl) (by kernel_rfl) (fun _ _ _ h => h) (Or.inl ⟨by rfl, ?_⟩) (by assumption) ?_
  rotate_left
  · (intro w hSw; (try dsimp only at hSw); go_simp; try with_reducible rfl)
  try simp only [Act.put, List.setIfInBounds_toArray, List.set_cons_zero, List.set_cons_succ]
  refine wpAnyH_take (i := 1) (oi := ⟨some 10, _, _, _, _, _⟩) (v := ?_) rfl (by kernel_rfl) (by kernel_rfl) (by kernel_rfl) (fun _ _ _ h => h) (Or.inl ⟨by rfl, ?_⟩) (by assumption) ?_
  rotate_left
  · (intro w hSw; (try dsimp only at hSw); go_simp; try with_reducible rfl)
  try simp only [Act.put, List.setIfInBounds_toArray, List.set_cons_zero, List.set_cons_succ]
  refine wpAnyH_take (i := 2) (oi := ⟨some 11, _, _, _, _, _⟩) (v := ?_) rfl (by kernel_rfl) (by kernel_rfl) (by kernel_rfl) (fun _ _ _ h => h) (Or.inl ⟨by rfl, ?_⟩) (by assumption) ?_
  rotate_left
  · (intro w hSw; (try dsimp only at hSw); go_simp; try with_reducible rfl)
  try simp only [Act.put, List.setIfInBounds_toArray, List.set_cons_zero, List.set_cons_succ]
  refine wpAnyH_take (i := 3) (oi := ⟨some 12, _, _, _, _, _⟩) (v := ?_) rfl (by kernel_rfl) (by kernel_rfl) (by kernel_rfl) (fun _ _ _ h => h) (Or.inl ⟨by rfl, ?_⟩) (by assumption) ?_
  rotate_left
  · (intro w hSw; (try dsimp only at hSw); go_simp; try with_reducible rfl)
  try simp only [Act.put, List.setIfInBounds_toArray, List.set_cons_zero, List.set_cons_succ]
  refine wpAnyH_take (i := 5) (oi := ⟨some 14, _, _, _, _, _⟩) (v := ?_) rfl (by kernel_rfl) (by kernel_rfl) (by kernel_rfl) (fun _ _ _ h => h) (Or.inl ⟨by rfl, ?_⟩) (by assumption) ?_
  rotate_left
  · (intro w hSw; (try dsimp only at hSw); go_simp; try with_reducible rfl)
  try simp only [Act.put, List.setIfInBounds_toArray, List.set_cons_zero, List.set_cons_succ]
  refine wpAnyH_take (i := 6) (oi := ⟨some 15, _, _, _, _, _⟩) (v := ?_) rfl (by kernel_rfl) (by kernel_rfl) (by kernel_rfl) (fun _ _ _ h => h) (Or.inl ⟨by rfl, ?_⟩) (by assumption) ?_
  rotate_left
  · (intro w hSw; (try dsimp only at hSw); go_simp; try with_reducible rfl)
  try simp only [Act.put, List.setIfInBounds_toArray, List.set_cons_zero, List.set_cons_succ]
  refine wpAnyH_take (i := 7) (oi := ⟨some 16, _, _, _, _, _⟩) (v := ?_) rfl (by kernel_rfl) (by kernel_rfl) (by kernel_rfl) (fun _ _ _ h => h) (Or.inl ⟨by rfl, ?_⟩) (by assumption) ?_
  rotate_left
  · (intro w hSw; (try dsimp only at hSw); go_simp; try with_reducible rfl)
  try simp only [Act.put, List.setIfInBounds_toArray, List.set_cons_zero, List.set_cons_succ]
  refine wpAnyH_take (i := 9) (oi := ⟨some 18, _, _, _, _, _⟩) (v := ?_) rfl (by kernel_rfl) (by kernel_rfl) (by kernel_rfl) (fun _ _ _ h => h) (Or.inl ⟨by rfl, ?_⟩) (by assumption) ?_
  rotate_left
  · (intro w hSw; (try dsimp only at hSw); go_simp; try with_reducible rfl)
  try simp only [Act.put, List.setIfInBounds_toArray, List.set_cons_zero, List.set_cons_succ]
  refine wpAnyH_take (i := 10) (oi := ⟨some 19, _, _, _, _, _⟩) (v := ?_) rfl (by kernel_rfl) (by kernel_rfl) (by kernel_rfl) (fun _ _ _ h => h) (Or.inl ⟨by rfl, ?_⟩) (by assumption) ?_
  rotate_left
  · (intro w hSw; (try dsimp only at hSw); go_simp; try with_reducible rfl)
  try simp only [Act.put, List.setIfInBounds_toArray, List.set_cons_zero, List.set_cons_succ]
  refine wpAnyH_ready (rs := [4, 8]) (by kernel_rfl) (by simp) ?_
  refine AllReadyH.cons (o := ⟨some 13, _, _, _, _, _⟩) rfl (fun K hK => ?_) (AllReadyH.cons (o := ⟨some 17, _, _, _, _, _⟩) rfl (fun K hK => ?_) AllReadyH.nil)
  · go_simp
    refine hK.out _ _ ?_ (fun hHeldX => ?_)
    · first | exact box_S (D4.out.box.alloc _) | exact box_S D4.out.box | exact box_S D3.out.box | exact box_S D0.out.box
    clear hK K hHeld
    rename _ => hHeld
    try simp only [Act.put, List.setIfInBounds_toArray, List.set_cons_zero, List.set_cons_succ]
    refine wpAnyH_ready (rs := [8]) (by kernel_rfl) (by simp) ?_
    refine AllReadyH.cons (o := ⟨some 17, _, _, _, _, _⟩) rfl (fun K hK => ?_) AllReadyH.nil
    go_simp
    refine (log_place (n := L.length) (f := cntZ L) (by omega) (fun x => Nat.le_trans (cntZ_le L x) (by omega)) hth D0.out.blk D0.out.beg).mono ?_
    intro e w3 hp
    obtain rfl := hp.told
    obtain ⟨mv3, hD3⟩ := D0.out.place H0.out hp
    have D3 := Lib.hid hD3
    have c3 := hD3.blk.at (o := 0) rfl
    clear hD3 hp
    go_wp2_with fail
    refine hK.out _ _ ?_ (fun hHeldX => ?_)
    · first | exact box_S D4.out.box | exact box_S D3.out.box | exact box_S D0.out.box
    clear hK K hHeld
    rename _ => hHeld
    try simp only [Act.put, List.setIfInBounds_toArray, List.set_cons_zero, List.set_cons_succ]
    refine wpAnyH_ready (rs := [11]) (by kernel_rfl) (by simp) ?_
    refine AllReadyH.cons (o := ⟨some 20, _, _, _, _, _⟩) rfl (fun K hK => ?_) AllReadyH.nil
    go_simp
    refine (log_moment' hnow D3.out.blk).mono ?_
    rintro e w4 ⟨rfl, hb4, ho4⟩
    have D4 := Lib.hid (D3.out.moment H0.out hb4 ho4)
    have c4 := D4.out.blk.at (o := 0) rfl
    have c4a : ∀ ob, (w4.alloc ob).cell? ⟨Bl, 0, none⟩ = some cv := fun ob => (D4.out.blk.alloc ob).at (o := 0) rfl
    clear hb4 ho4
    go_wp2_with fail
    refine hK.out _ _ ?_ (fun hHeldX => ?_)
    · first | exact box_S D4.out.box | exact box_S D3.out.box | exact box_S D0.out.box
    clear hK K hHeld
    rename _ => hHeld
    try simp only [Act.put, List.setIfInBounds_toArray, List.set_cons_zero, List.set_cons_succ]
    refine wpAnyH_take (i := 12) (oi := ⟨some 21, _, _, _, _, _⟩) (v := ?_) rfl (by kernel_rfl) (by kernel_rfl) (by kernel_rfl) (fun _ _ _ h => h) (Or.inl ⟨by rfl, ?_⟩) (by assumption) ?_
    rotate_left
    · (intro w hSw; (try dsimp only at hSw); go_simp; try with_reducible rfl)
    try simp only [Act.put, List.setIfInBounds_toArray, List.set_cons_zero, List.set_cons_succ]
    refine wpAnyH_ready (rs := [13]) (by kernel_rfl) (by simp) ?_
    refine AllReadyH.cons (o := ⟨some 22, _, _, _, _, _⟩) rfl (fun K hK => ?_) AllReadyH.nil
    go_simp
    refine hK.out _ _ ?_ (fun hHeldX => ?_)
    · exact box_S (D4.out.box.alloc _)
    clear hK K hHeld
    rename _ => hHeld
    try simp only [Act.put, List.setIfInBounds_toArray, List.set_cons_zero, List.set_cons_succ]
    refine wpAnyH_ready (rs := [14]) (by kernel_rfl) (by simp) ?_
    refine AllReadyH.cons (o := ⟨some 23, _, _, _, _, _⟩) rfl (fun K hK => ?_) AllReadyH.nil
    refine step_append_lies _ rfl (.tmp 13) (.tmp 22) 27 rfl base 42 i0 (callA default) 15 152 Try.underlying27 hi hz0 hz1 hz2 rfl (by decide) _ _ _ rfl (D4.out.row.alloc _) ⟨w4.heap.size, 0, none⟩ 1 1 (callV (beganZ L now th o)) rfl rfl (World.news_of_block (Blk.new (l := callV (beganZ L now th o)))) (by simp [callV, Value.oneCell']) (by decide) (by simp only [maxLen]; omega) (by omega) (by have := D4.out.only.size; simp; omega) (w4.heap.size + 1) (by simp) ?_
    intro g5 cap5 w5 hown hgrow hlie hlt5
    obtain ⟨b5, x5, r5⟩ := D4.out.done H0.out hgrow hlie hown
    have c5 := b5.at (o := 0) rfl
    have f5 := b5.frozen 0
    have E := Lib.hid r5
    have X5 := Lib.hid x5
    clear b5 x5 r5 hown hgrow hlie hlt5
    refine hK.out _ _ ?_ (fun hHeldX => ?_)
    · exact box_S X5.out
    clear hK K hHeld
    rename _ => hHeld
    try simp only [Act.put, List.setIfInBounds_toArray, List.set_cons_zero, List.set_cons_succ]
    refine wpAnyH_take (i := 15) (oi := ⟨some 24, _, _, _, _, _⟩) (v := ?_) rfl (by kernel_rfl) (by kernel_rfl) (by kernel_rfl) (fun _ _ _ h => h) (Or.inl ⟨by rfl, ?_⟩) (by assumption) ?_
    rotate_left
    · (intro w hSw; (try dsimp only at hSw); go_simp; try with_reducible rfl)
    try simp only [Act.put, List.setIfInBounds_toArray, List.set_cons_zero, List.set_cons_succ]
    refine wpAnyH_take (i := 16) (oi := ⟨some 25, _, _, _, _, _⟩) (v := ?_) rfl (by kernel_rfl) (by kernel_rfl) (by kernel_rfl) (fun _ _ _ h => h) (Or.inl ⟨by rfl, ?_⟩) (by assumption) ?_
    rotate_left
    · (intro w hSw; (try dsimp only at hSw); go_simp; try with_reducible rfl)
    try simp only [Act.put, List.setIfInBounds_toArray, List.set_cons_zero, List.set_cons_succ]
    refine wpAnyH_ready (rs := [17]) (by kernel_rfl) (by simp) ?_
    refine AllReadyH.cons (o := ⟨none, _, _, _, _, _⟩) rfl (fun K hK => ?_) AllReadyH.nil
    go_simp
    refine hK.out _ _ ?_ (fun hHeldX => ?_)
    · exact box_S E.out.1
    clear hK K hHeld
    rename _ => hHeld
    try simp only [Act.put, List.setIfInBounds_toArray, List.set_cons_zero, List.set_cons_succ]
    refine wpAnyH_done (by kernel_rfl) ?_ _
    refine NoPanic.normal ?_
    have c6 := E.out.2.1.blk.at (o := 0) rfl
    go_wp2
    go_ret
    exact ⟨rfl, ⟨_, _, E.out.2.1, E.out.2.2.1⟩, E.out.2.2.2⟩
  · go_simp
    refine (log_place (n := L.length) (f := cntZ L) (by omega) (fun x => Nat.le_trans (cntZ_le L x) (by omega)) hth D0.out.blk D0.out.beg).mono ?_
    intro e w3 hp
    obtain rfl := hp.told
    obtain ⟨mv3, hD3⟩ := D0.out.place H0.out hp
    have D3 := Lib.hid hD3
    have c3 := hD3.blk.at (o := 0) rfl
    clear hD3 hp
    go_wp2_with fail
    refine hK.out _ _ ?_ (fun hHeldX => ?_)
    · first | exact box_S D4.out.box | exact box_S D3.out.box | exact box_S D0.out.box
    clear hK K hHeld
    rename _ => hHeld
    try simp only [Act.put, List.setIfInBounds_toArray, List.set_cons_zero, List.set_cons_succ]
    refine wpAnyH_ready (rs := [4, 11]) (by kernel_rfl) (by simp) ?_
    refine AllReadyH.cons (o := ⟨some 13, _, _, _, _, _⟩) rfl (fun K hK => ?_) (AllReadyH.cons (o := ⟨some 20, _, _, _, _, _⟩) rfl (fun K hK => ?_) AllReadyH.nil)
    · go_simp
      refine hK.out _ _ ?_ (fun hHeldX => ?_)
      · first | exact box_S (D4.out.box.alloc _) | exact box_S D4.out.box | exact box_S D3.out.box | exact box_S D0.out.box
      clear hK K hHeld
      rename _ => hHeld
      try simp only [Act.put, List.setIfInBounds_toArray, List.set_cons_zero, List.set_cons_succ]
      refine wpAnyH_ready (rs := [11]) (by kernel_rfl) (by simp) ?_
      refine AllReadyH.cons (o := ⟨some 20, _, _, _, _, _⟩) rfl (fun K hK => ?_) AllReadyH.nil
      go_simp
      refine (log_moment' hnow D3.out.blk).mono ?_
      rintro e w4 ⟨rfl, hb4, ho4⟩
      have D4 := Lib.hid (D3.out.moment H0.out hb4 ho4)
      have c4 := D4.out.blk.at (o := 0) rfl
      have c4a : ∀ ob, (w4.alloc ob).cell? ⟨Bl, 0, none⟩ = some cv := fun ob => (D4.out.blk.alloc ob).at (o := 0) rfl
      clear hb4 ho4
      go_wp2_with fail
      refine hK.out _ _ ?_ (fun hHeldX => ?_)
      · first | exact box_S D4.out.box | exact box_S D3.out.box | exact box_S D0.out.box
      clear hK K hHeld
      rename _ => hHeld
      try simp only [Act.put, List.setIfInBounds_toArray, List.set_cons_zero, List.set_cons_succ]
      refine wpAnyH_take (i := 12) (oi := ⟨some 21, _, _, _, _, _⟩) (v := ?_) rfl (by kernel_rfl) (by kernel_rfl) (by kernel_rfl) (fun _ _ _ h => h) (Or.inl ⟨by rfl, ?_⟩) (by assumption) ?_
      rotate_left
      · (intro w hSw; (try dsimp only at hSw); go_simp; try with_reducible rfl)
      try simp only [Act.put, List.setIfInBounds_toArray, List.set_cons_zero, List.set_cons_succ]
      refine wpAnyH_ready (rs := [13]) (by kernel_rfl) (by simp) ?_
      refine AllReadyH.cons (o := ⟨some 22, _, _, _, _, _⟩) rfl (fun K hK => ?_) AllReadyH.nil
      go_simp
      refine hK.out _ _ ?_ (fun hHeldX => ?_)
      · exact box_S (D4.out.box.alloc _)
      clear hK K hHeld
      rename _ => hHeld
      try simp only [Act.put, List.setIfInBounds_toArray, List.set_cons_zero, List.set_cons_succ]
      refine wpAnyH_ready (rs := [14]) (by kernel_rfl) (by simp) ?_
      refine AllReadyH.cons (o := ⟨some 23, _, _, _, _, _⟩) rfl (fun K hK => ?_) AllReadyH.nil
      refine step_append_lies _ rfl (.tmp 13) (.tmp 22) 27 rfl base 42 i0 (callA default) 15 152 Try.underlying27 hi hz0 hz1 hz2 rfl (by decide) _ _ _ rfl (D4.out.row.alloc _) ⟨w4.heap.size, 0, none⟩ 1 1 (callV (beganZ L now th o)) rfl rfl (World.news_of_block (Blk.new (l := callV (beganZ L now th o)))) (by simp [callV, Value.oneCell']) (by decide) (by simp only [maxLen]; omega) (by omega) (by have := D4.out.only.size; simp; omega) (w4.heap.size + 1) (by simp) ?_
      intro g5 cap5 w5 hown hgrow hlie hlt5
      obtain ⟨b5, x5, r5⟩ := D4.out.done H0.out hgrow hlie hown
      have c5 := b5.at (o := 0) rfl
      have f5 := b5.frozen 0
      have E := Lib.hid r5
      have X5 := Lib.hid x5
      clear b5 x5 r5 hown hgrow hlie hlt5
      refine hK.out _ _ ?_ (fun hHeldX => ?_)
      · exact box_S X5.out
      clear hK K hHeld
      rename _ => hHeld
      try simp only [Act.put, List.setIfInBounds_toArray, List.set_cons_zero, List.set_cons_succ]
      refine wpAnyH_take (i := 15) (oi := ⟨some 24, _, _, _, _, _⟩) (v := ?_) rfl (by kernel_rfl) (by kernel_rfl) (by kernel_rfl) (fun _ _ _ h => h) (Or.inl ⟨by rfl, ?_⟩) (by assumption) ?_
      rotate_left
      · (intro w hSw; (try dsimp only at hSw); go_simp; try with_reducible rfl)
      try simp only [Act.put, List.setIfInBounds_toArray, List.set_cons_zero, List.set_cons_succ]
      refine wpAnyH_take (i := 16) (oi := ⟨some 25, _, _, _, _, _⟩) (v := ?_) rfl (by kernel_rfl) (by kernel_rfl) (by kernel_rfl) (fun _ _ _ h => h) (Or.inl ⟨by rfl, ?_⟩) (by assumption) ?_
      rotate_left
      · (intro w hSw; (try dsimp only at hSw); go_simp; try with_reducible rfl)
      try simp only [Act.put, List.setIfInBounds_toArray, List.set_cons_zero, List.set_cons_succ]
      refine wpAnyH_ready (rs := [17]) (by kernel_rfl) (by simp) ?_
      refine AllReadyH.cons (o := ⟨none, _, _, _, _, _⟩) rfl (fun K hK => ?_) AllReadyH.nil
      go_simp
      refine hK.out _ _ ?_ (fun hHeldX => ?_)
      · exact box_S E.out.1
      clear hK K hHeld
      rename _ => hHeld
      try simp only [Act.put, List.setIfInBounds_toArray, List.set_cons_zero, List.set_cons_succ]
      refine wpAnyH_done (by kernel_rfl) ?_ _
      refine NoPanic.normal ?_
      have c6 := E.out.2.1.blk.at (o := 0) rfl
      go_wp2
      go_ret
      exact ⟨rfl, ⟨_, _, E.out.2.1, E.out.2.2.1⟩, E.out.2.2.2⟩
    · go_simp
      refine (log_moment' hnow D3.out.blk).mono ?_
      rintro e w4 ⟨rfl, hb4, ho4⟩
      have D4 := Lib.hid (D3.out.moment H0.out hb4 ho4)
      have c4 := D4.out.blk.at (o := 0) rfl
      have c4a : ∀ ob, (w4.alloc ob).cell? ⟨Bl, 0, none⟩ = some cv := fun ob => (D4.out.blk.alloc ob).at (o := 0) rfl
      clear hb4 ho4
      go_wp2_with fail
      refine hK.out _ _ ?_ (fun hHeldX => ?_)
      · first | exact box_S D4.out.box | exact box_S D3.out.box | exact box_S D0.out.box
      clear hK K hHeld
      rename _ => hHeld
      try simp only [Act.put, List.setIfInBounds_toArray, List.set_cons_zero, List.set_cons_succ]
      refine wpAnyH_take (i := 12) (oi := ⟨some 21, _, _, _, _, _⟩) (v := ?_) rfl (by kernel_rfl) (by kernel_rfl) (by kernel_rfl) (fun _ _ _ h => h) (Or.inl ⟨by rfl, ?_⟩) (by assumption) ?_
      rotate_left
      · (intro w hSw; (try dsimp only at hSw); go_simp; try with_reducible rfl)
      try simp only [Act.put, List.setIfInBounds_toArray, List.set_cons_zero, List.set_cons_succ]
      refine wpAnyH_ready (rs := [4, 13]) (by kernel_rfl) (by simp) ?_
      refine AllReadyH.cons (o := ⟨some 13, _, _, _, _, _⟩) rfl (fun K hK => ?_) (AllReadyH.cons (o := ⟨some 22, _, _, _, _, _⟩) rfl (fun K hK => ?_) AllReadyH.nil)
      · go_simp
        refine hK.out _ _ ?_ (fun hHeldX => ?_)
        · first | exact box_S (D4.out.box.alloc _) | exact box_S D4.out.box | exact box_S D3.out.box | exact box_S D0.out.box
        clear hK K hHeld
        rename _ => hHeld
        try simp only [Act.put, List.setIfInBounds_toArray, List.set_cons_zero, List.set_cons_succ]
        refine wpAnyH_ready (rs := [13]) (by kernel_rfl) (by simp) ?_
        refine AllReadyH.cons (o := ⟨some 22, _, _, _, _, _⟩) rfl (fun K hK => ?_) AllReadyH.nil
        go_simp
        refine hK.out _ _ ?_ (fun hHeldX => ?_)
        · exact box_S (D4.out.box.alloc _)
        clear hK K hHeld
        rename _ => hHeld
        try simp only [Act.put, List.setIfInBounds_toArray, List.set_cons_zero, List.set_cons_succ]
        refine wpAnyH_ready (rs := [14]) (by kernel_rfl) (by simp) ?_
        refine AllReadyH.cons (o := ⟨some 23, _, _, _, _, _⟩) rfl (fun K hK => ?_) AllReadyH.nil
        refine step_append_lies _ rfl (.tmp 13) (.tmp 22) 27 rfl base 42 i0 (callA default) 15 152 Try.underlying27 hi hz0 hz1 hz2 rfl (by decide) _ _ _ rfl (D4.out.row.alloc _) ⟨w4.heap.size, 0, none⟩ 1 1 (callV (beganZ L now th o)) rfl rfl (World.news_of_block (Blk.new (l := callV (beganZ L now th o)))) (by simp [callV, Value.oneCell']) (by decide) (by simp only [maxLen]; omega) (by omega) (by have := D4.out.only.size; simp; omega) (w4.heap.size + 1) (by simp) ?_
        intro g5 cap5 w5 hown hgrow hlie hlt5
        obtain ⟨b5, x5, r5⟩ := D4.out.done H0.out hgrow hlie hown
        have c5 := b5.at (o := 0) rfl
        have f5 := b5.frozen 0
        have E := Lib.hid r5
        have X5 := Lib.hid x5
        clear b5 x5 r5 hown hgrow hlie hlt5
        refine hK.out _ _ ?_ (fun hHeldX => ?_)
        · exact box_S X5.out
        clear hK K hHeld
        rename _ => hHeld
        try simp only [Act.put, List.setIfInBounds_toArray, List.set_cons_zero, List.set_cons_succ]
        refine wpAnyH_take (i := 15) (oi := ⟨some 24, _, _, _, _, _⟩) (v := ?_) rfl (by kernel_rfl) (by kernel_rfl) (by kernel_rfl) (fun _ _ _ h => h) (Or.inl ⟨by rfl, ?_⟩) (by assumption) ?_
        rotate_left
        · (intro w hSw; (try dsimp only at hSw); go_simp; try with_reducible rfl)
        try simp only [Act.put, List.setIfInBounds_toArray, List.set_cons_zero, List.set_cons_succ]
        refine wpAnyH_take (i := 16) (oi := ⟨some 25, _, _, _, _, _⟩) (v := ?_) rfl (by kernel_rfl) (by kernel_rfl) (by kernel_rfl) (fun _ _ _ h => h) (Or.inl ⟨by rfl, ?_⟩) (by assumption) ?_
        rotate_left
        · (intro w hSw; (try dsimp only at hSw); go_simp; try with_reducible rfl)
        try simp only [Act.put, List.setIfInBounds_toArray, List.set_cons_zero, List.set_cons_succ]
        refine wpAnyH_ready (rs := [17]) (by kernel_rfl) (by simp) ?_
        refine AllReadyH.cons (o := ⟨none, _, _, _, _, _⟩) rfl (fun K hK => ?_) AllReadyH.nil
        go_simp
        refine hK.out _ _ ?_ (fun hHeldX => ?_)
        · exact box_S E.out.1
        clear hK K hHeld
        rename _ => hHeld
        try simp only [Act.put, List.setIfInBounds_toArray, List.set_cons_zero, List.set_cons_succ]
        refine wpAnyH_done (by kernel_rfl) ?_ _
        refine NoPanic.normal ?_
        have c6 := E.out.2.1.blk.at (o := 0) rfl
        go_wp2
        go_ret
        exact ⟨rfl, ⟨_, _, E.out.2.1, E.out.2.2.1⟩, E.out.2.2.2⟩
      · go_simp
        refine hK.out _ _ ?_ (fun hHeldX => ?_)
        · exact box_S (D4.out.box.alloc _)
        clear hK K hHeld
        rename _ => hHeld
        try simp only [Act.put, List.setIfInBounds_toArray, List.set_cons_zero, List.set_cons_succ]
        refine wpAnyH_ready (rs := [4]) (by kernel_rfl) (by simp) ?_
        refine AllReadyH.cons (o := ⟨some 13, _, _, _, _, _⟩) rfl (fun K hK => ?_) AllReadyH.nil
        go_simp
        refine hK.out _ _ ?_ (fun hHeldX => ?_)
        · first | exact box_S (D4.out.box.alloc _) | exact box_S D4.out.box | exact box_S D3.out.box | exact box_S D0.out.box
        clear hK K hHeld
        rename _ => hHeld
        try simp only [Act.put, List.setIfInBounds_toArray, List.set_cons_zero, List.set_cons_succ]
        refine wpAnyH_ready (rs := [14]) (by kernel_rfl) (by simp) ?_
        refine AllReadyH.cons (o := ⟨some 23, _, _, _, _, _⟩) rfl (fun K hK => ?_) AllReadyH.nil
        refine step_append_lies _ rfl (.tmp 13) (.tmp 22) 27 rfl base 42 i0 (callA default) 15 152 Try.underlying27 hi hz0 hz1 hz2 rfl (by decide) _ _ _ rfl (D4.out.row.alloc _) ⟨w4.heap.size, 0, none⟩ 1 1 (callV (beganZ L now th o)) rfl rfl (World.news_of_block (Blk.new (l := callV (beganZ L now th o)))) (by simp [callV, Value.oneCell']) (by decide) (by simp only [maxLen]; omega) (by omega) (by have := D4.out.only.size; simp; omega) (w4.heap.size + 1) (by simp) ?_
        intro g5 cap5 w5 hown hgrow hlie hlt5
        obtain ⟨b5, x5, r5⟩ := D4.out.done H0.out hgrow hlie hown
        have c5 := b5.at (o := 0) rfl
        have f5 := b5.frozen 0
        have E := Lib.hid r5
        have X5 := Lib.hid x5
        clear b5 x5 r5 hown hgrow hlie hlt5
        refine hK.out _ _ ?_ (fun hHeldX => ?_)
        · exact box_S X5.out
        clear hK K hHeld
        rename _ => hHeld
        try simp only [Act.put, List.setIfInBounds_toArray, List.set_cons_zero, List.set_cons_succ]
        refine wpAnyH_take (i := 15) (oi := ⟨some 24, _, _, _, _, _⟩) (v := ?_) rfl (by kernel_rfl) (by kernel_rfl) (by kernel_rfl) (fun _ _ _ h => h) (Or.inl ⟨by rfl, ?_⟩) (by assumption) ?_
        rotate_left
        · (intro w hSw; (try dsimp only at hSw); go_simp; try with_reducible rfl)
        try simp only [Act.put, List.setIfInBounds_toArray, List.set_cons_zero, List.set_cons_succ]
        refine wpAnyH_take (i := 16) (oi := ⟨some 25, _, _, _, _, _⟩) (v := ?_) rfl (by kernel_rfl) (by kernel_rfl) (by kernel_rfl) (fun _ _ _ h => h) (Or.inl ⟨by rfl, ?_⟩) (by assumption) ?_
        rotate_left
        · (intro w hSw; (try dsimp only at hSw); go_simp; try with_reducible rfl)
        try simp only [Act.put, List.setIfInBounds_toArray, List.set_cons_zero, List.set_cons_succ]
        refine wpAnyH_ready (rs := [17]) (by kernel_rfl) (by simp) ?_
        refine AllReadyH.cons (o := ⟨none, _, _, _, _, _⟩) rfl (fun K hK => ?_) AllReadyH.nil
        go_simp
        refine hK.out _ _ ?_ (fun hHeldX => ?_)
        · exact box_S E.out.1
        clear hK K hHeld
        rename _ => hHeld
        try simp only [Act.put, List.setIfInBounds_toArray, List.set_cons_zero, List.set_cons_succ]
        refine wpAnyH_done (by kernel_rfl) ?_ _
        refine NoPanic.normal ?_
        have c6 := E.out.2.1.blk.at (o := 0) rfl
        go_wp2
        go_ret
        exact ⟨rfl, ⟨_, _, E.out.2.1, E.out.2.2.1⟩, E.out.2.2.2⟩

end Go.Proofs.Ytjkabbabhfipbaa
