/- Layer 9: the document's answer (bellmanref09) in memory: Retire. -/
import Derived.Test.YtkbappdlijmjlaaRefEp9
namespace Go.Proofs.Ytkbappdlijmjlaa
open Go.RowKit

section
variable {w : World} {lo X : Nat} {v : Nat → Value} {x : RE}
theorem upd_two (q : Nat → List Int) (a b : List Int) : upd (upd q 1 a) 2 (upd q 1 a 2 ++ b) = upd (upd q 1 a) 2 (q 2 ++ b) := rfl
theorem ReBlk.mono {v v2 : Nat → Value} {X n k : Nat} (hv : VNew n v v2) (h : ReBlk X v2 k) (hk : k < n) : ReBlk X v k := h.imp id (fun h => (hv k h).elim id (fun e => by omega))
theorem retired {wA wB : World} {v2 : Nat → Value} {q : Nat → List Int} (hA : ReIs wA lo X v2 ⟨x.now, q⟩ ∧ VNew w.heap.size v v2) (oA : Only (ReBlk X v) w wA) (hB : ∃ v', ReIs wB lo X v' ⟨x.now, upd q 2 (q 2 ++ [(x.now : Int)])⟩ ∧ VNew (wA.drew).heap.size v2 v') (oB : Only (ReBlk X v2) wA.drew wB) :
    (Ending.returned (.tuple #[]) = Ending.returned (.tuple #[])) ∧ (∃ v', ReIs wB lo X v' ⟨x.now, upd q 2 (q 2 ++ [(x.now : Int)])⟩ ∧ VNew w.heap.size v v') ∧ Only (ReBlk X v) w wB := by
  obtain ⟨v3, h3, n3⟩ := hB
  exact ⟨rfl, ⟨v3, h3, hA.2.trans n3 oA.size⟩, (oA.drewN 1).step oB (fun i hi e => e.mono hA.2 hi)⟩
set_option maxHeartbeats 1000000 in
theorem ref_Retire9 (h : ReIs w lo X v x) (hlo : lo ≤ w.heap.size) (y : Int) (h1 : (x.q 1).length ≤ 1000000) (h2 : (x.q 2).length ≤ 1000000) : Calls Try.prog 14 #[.pointer (some ⟨X, 0, none⟩), .int .i64 y] w fun e w' =>
    e = .returned (.tuple #[]) ∧ (∃ v', ReIs w' lo X v' ⟨x.now, upd (upd x.q 1 (x.q 1 ++ [y])) 2 (x.q 2 ++ [(x.now : Int)])⟩ ∧ VNew w.heap.size v v') ∧ Only (ReBlk X v) w w' := by
  obtain ⟨i0, hi0, hz0, hz1, hz2⟩ := info_at infoInt
  have c1 : w.cell? ⟨X, 2, none⟩ = some (v 1) := h.blk.at (reV_at (j := 1) (by decide))
  have r1 := h.own.own 1 (by decide)
  obtain ⟨oa, oc, oe⟩ := own_form r1
  rw [oe] at c1 r1
  have HV := Lib.hid oe
  have H := Lib.hid h
  clear h oe
  go_enter Try.func14, Try.ntmps14
  go_wp2_with (at_builtin; (refine wpList_append_lies _ rfl _ _ 32 rfl lo 3 i0 (.int .i64 0) 1 8 Try.underlying32 hi0 hz0 hz1 hz2 rfl (by decide) _ _ _ rfl (r1.alloc _) ⟨w.heap.size, 0, none⟩ 1 1 [.int .i64 y] rfl rfl (cell_one_new _ _ _) (by simp [Value.oneCell']) (by decide) (by simp only [maxLen]; first | omega | (simp; omega)) (by first | omega | (simp; omega) | simp) (by first | omega | (simp; omega) | simp) (w.heap.size + 1) (by simp) ?_); intro g' cap' w9 hown' hgrow hlie hlt'; rw [← HV.out] at hgrow hlie; obtain ⟨⟨c9, f9⟩, hend⟩ := H.out.grown (j := 1) (by decide) hgrow hlie hown'; rw [HV.out] at c9; have HE := Lib.hid hend; clear hown' hgrow hlie hlt' hend)
  obtain ⟨⟨v2, hv2, hn2⟩, ho2⟩ := HE.out
  clear HE c9 f9 c1 r1
  generalize w9.setCell ⟨X, 2, none⟩ (.slice (some ⟨g', 0, none⟩) ((x.q 1).length + 1) cap') = wA at *
  have c2 : wA.drew.cell? ⟨X, 3, none⟩ = some (v2 2) := hv2.blk.at (reV_at (j := 2) (by decide))
  have r2 := (hv2.drewN 1).own.own 2 (by decide)
  replace r2 : wA.drew.ownsRow lo 3 1 (v2 2) (x.q 2).length ((x.q 2).map numV) := r2
  obtain ⟨oa2, oc2, oe2⟩ := own_form r2
  rw [oe2] at c2 r2
  have HV2 := Lib.hid oe2
  have D2 : Hid (ReIs wA.drew lo X v2 ⟨x.now, upd x.q 1 (x.q 1 ++ [y])⟩) := Lib.hid (hv2.drewN 1)
  have c2a : ∀ ob, (wA.alloc ob).cell? ⟨X, 3, none⟩ = some (.slice oa2 (x.q 2).length oc2) := fun ob => by rw [← HV2.out]; exact (D2.out.blk.alloc ob).at (reV_at (j := 2) (by decide))
  have HA := Lib.hid (And.intro (And.intro hv2 hn2) ho2)
  clear hv2 hn2 ho2 oe2
  refine wp_region_noPanic ?_
  refine wp_region_held_drew (S := (fun w' => w'.cell? ⟨X, 0, none⟩ = some (.int .i64 (x.now : Int)))) (by kernel_rfl) ?_ (fun hHeld => ?_)
  · exact D2.out.blk.at rfl
  refine wpAnyH_take (i := 0) (oi := ⟨some 14, _, _, _, _, _⟩) (v := ?_) rfl (by kernel_rfl) (by kernel_rfl) (by kernel_rfl) (fun _ _ _ h => h) (Or.inl ⟨by rfl, ?_⟩) (by assumption) ?_
  rotate_left
  · (intro w hSw; (try dsimp only at hSw); go_simp; try with_reducible rfl)
  try simp only [Act.put, List.setIfInBounds_toArray, List.set_cons_zero, List.set_cons_succ]
  refine wpAnyH_take (i := 1) (oi := ⟨some 15, _, _, _, _, _⟩) (v := ?_) rfl (by kernel_rfl) (by kernel_rfl) (by kernel_rfl) (fun _ _ _ h => h) (Or.inl ⟨by rfl, ?_⟩) (by assumption) ?_
  rotate_left
  · (intro w hSw; (try dsimp only at hSw); go_simp; try with_reducible rfl)
  try simp only [Act.put, List.setIfInBounds_toArray, List.set_cons_zero, List.set_cons_succ]
  refine wpAnyH_take (i := 2) (oi := ⟨some 16, _, _, _, _, _⟩) (v := ?_) rfl (by kernel_rfl) (by kernel_rfl) (by kernel_rfl) (fun _ _ _ h => h) (Or.inl ⟨by rfl, ?_⟩) (by assumption) ?_
  rotate_left
  · (intro w hSw; (try dsimp only at hSw); go_simp; try with_reducible rfl)
  try simp only [Act.put, List.setIfInBounds_toArray, List.set_cons_zero, List.set_cons_succ]
  refine wpAnyH_take (i := 3) (oi := ⟨some 17, _, _, _, _, _⟩) (v := ?_) rfl (by kernel_rfl) (by kernel_rfl) (by kernel_rfl) (fun _ _ _ h => h) (Or.inl ⟨by rfl, ?_⟩) (by assumption) ?_
  rotate_left
  · (intro w hSw; (try dsimp only at hSw); go_simp; try with_reducible rfl)
  try simp only [Act.put, List.setIfInBounds_toArray, List.set_cons_zero, List.set_cons_succ]
  refine wpAnyH_take (i := 5) (oi := ⟨some 19, _, _, _, _, _⟩) (v := ?_) rfl (by kernel_rfl) (by kernel_rfl) (by kernel_rfl) (fun _ _ _ h => h) (Or.inl ⟨by rfl, ?_⟩) (by assumption) ?_
  rotate_left
  · (intro w hSw; (try dsimp only at hSw); go_simp; try with_reducible rfl)
  try simp only [Act.put, List.setIfInBounds_toArray, List.set_cons_zero, List.set_cons_succ]
  refine wpAnyH_take (i := 6) (oi := ⟨some 20, _, _, _, _, _⟩) (v := ?_) rfl (by kernel_rfl) (by kernel_rfl) (by kernel_rfl) (fun _ _ _ h => h) (Or.inl ⟨by rfl, ?_⟩) (by assumption) ?_
  rotate_left
  · (intro w hSw; (try dsimp only at hSw); go_simp; try with_reducible rfl)
  try simp only [Act.put, List.setIfInBounds_toArray, List.set_cons_zero, List.set_cons_succ]
  refine wpAnyH_take (i := 7) (oi := ⟨some 21, _, _, _, _, _⟩) (v := ?_) rfl (by kernel_rfl) (by kernel_rfl) (by kernel_rfl) (fun _ _ _ h => h) (Or.inl ⟨by rfl, ?_⟩) (by assumption) ?_
  rotate_left
  · (intro w hSw; (try dsimp only at hSw); go_simp; try with_reducible rfl)
  try simp only [Act.put, List.setIfInBounds_toArray, List.set_cons_zero, List.set_cons_succ]
  refine wpAnyH_take (i := 8) (oi := ⟨some 22, _, _, _, _, _⟩) (v := ?_) rfl (by kernel_rfl) (by kernel_rfl) (by kernel_rfl) (fun _ _ _ h => h) (Or.inl ⟨by rfl, ?_⟩) (by assumption) ?_
  rotate_left
  · (intro w hSw; (try dsimp only at hSw); go_simp; try with_reducible rfl)
  try simp only [Act.put, List.setIfInBounds_toArray, List.set_cons_zero, List.set_cons_succ]
  refine wpAnyH_ready (rs := [4, 9]) (by kernel_rfl) (by simp) ?_
  refine AllReadyH.cons (o := ⟨some 18, _, _, _, _, _⟩) rfl (fun K hK => ?_) (AllReadyH.cons (o := ⟨some 23, _, _, _, _, _⟩) rfl (fun K hK => ?_) AllReadyH.nil)
  · go_simp
    refine hK.out _ _ ?_ (fun hHeldX => ?_)
    · first | exact D2.out.blk.at rfl | exact (D2.out.blk.alloc _).at rfl
    clear hK K hHeld
    rename _ => hHeld
    try simp only [Act.put, List.setIfInBounds_toArray, List.set_cons_zero, List.set_cons_succ]
    refine wpAnyH_ready (rs := [9]) (by kernel_rfl) (by simp) ?_
    refine AllReadyH.cons (o := ⟨some 23, _, _, _, _, _⟩) rfl (fun K hK => ?_) AllReadyH.nil
    go_simp
    refine hK.out _ _ ?_ (fun hHeldX => ?_)
    · first | exact D2.out.blk.at rfl | exact (D2.out.blk.alloc _).at rfl
    clear hK K hHeld
    rename _ => hHeld
    try simp only [Act.put, List.setIfInBounds_toArray, List.set_cons_zero, List.set_cons_succ]
    refine wpAnyH_ready (rs := [10]) (by kernel_rfl) (by simp) ?_
    refine AllReadyH.cons (o := ⟨some 24, _, _, _, _, _⟩) rfl (fun K hK => ?_) AllReadyH.nil
    refine step_append_lies _ rfl _ _ 32 rfl lo 3 i0 (.int .i64 0) 1 8 Try.underlying32 hi0 hz0 hz1 hz2 rfl (by decide) _ _ _ rfl (r2.alloc _) ⟨wA.heap.size, 0, none⟩ 1 1 [.int .i64 (x.now : Int)] rfl rfl (cell_one_new _ _ _) (by simp [Value.oneCell']) (by decide) (by simp only [maxLen]; first | omega | (simp; omega)) (by first | omega | (simp; omega) | simp) (by have := HA.out.2.size; simp; omega) (wA.heap.size + 1) (by simp) ?_
    intro g2 cap2 wC hown2 hgrow2 hlie2 hlt2
    rw [← HV2.out] at hgrow2 hlie2
    obtain ⟨⟨c8, f8⟩, hend2⟩ := D2.out.grown (j := 2) (by decide) hgrow2 hlie2 hown2
    rw [HV2.out] at c8
    have HE2 := Lib.hid hend2
    have b8 := (D2.out.blk.only (own3_grown D2.out.own (j := 2) (by decide) hgrow2 hlie2 hown2).2.1 (fun e => D2.out.apart e rfl)).at (o := 0) rfl
    clear hown2 hgrow2 hlie2 hlt2 hend2
    refine hK.out _ _ ?_ (fun hHeldX => ?_)
    · exact b8
    clear hK K hHeld
    rename _ => hHeld
    try simp only [Act.put, List.setIfInBounds_toArray, List.set_cons_zero, List.set_cons_succ]
    refine wpAnyH_take (i := 11) (oi := ⟨some 25, _, _, _, _, _⟩) (v := ?_) rfl (by kernel_rfl) (by kernel_rfl) (by kernel_rfl) (fun _ _ _ h => h) (Or.inl ⟨by rfl, ?_⟩) (by assumption) ?_
    rotate_left
    · (intro w hSw; (try dsimp only at hSw); go_simp; try with_reducible rfl)
    try simp only [Act.put, List.setIfInBounds_toArray, List.set_cons_zero, List.set_cons_succ]
    refine wpAnyH_take (i := 12) (oi := ⟨some 26, _, _, _, _, _⟩) (v := ?_) rfl (by kernel_rfl) (by kernel_rfl) (by kernel_rfl) (fun _ _ _ h => h) (Or.inl ⟨by rfl, ?_⟩) (by assumption) ?_
    rotate_left
    · (intro w hSw; (try dsimp only at hSw); go_simp; try with_reducible rfl)
    try simp only [Act.put, List.setIfInBounds_toArray, List.set_cons_zero, List.set_cons_succ]
    refine wpAnyH_ready (rs := [13]) (by kernel_rfl) (by simp) ?_
    refine AllReadyH.cons (o := ⟨none, _, _, _, _, _⟩) rfl (fun K hK => ?_) AllReadyH.nil
    go_simp
    refine hK.out _ _ ?_ (fun hHeldX => ?_)
    · exact HE2.out.1.choose_spec.1.blk.at rfl
    clear hK K hHeld
    rename _ => hHeld
    try simp only [Act.put, List.setIfInBounds_toArray, List.set_cons_zero, List.set_cons_succ]
    refine wpAnyH_done (by kernel_rfl) ?_ _
    refine NoPanic.normal ?_
    go_end0
    exact retired HA.out.1 HA.out.2 HE2.out.1 HE2.out.2
  · go_simp
    refine hK.out _ _ ?_ (fun hHeldX => ?_)
    · first | exact D2.out.blk.at rfl | exact (D2.out.blk.alloc _).at rfl
    clear hK K hHeld
    rename _ => hHeld
    try simp only [Act.put, List.setIfInBounds_toArray, List.set_cons_zero, List.set_cons_succ]
    refine wpAnyH_ready (rs := [4]) (by kernel_rfl) (by simp) ?_
    refine AllReadyH.cons (o := ⟨some 18, _, _, _, _, _⟩) rfl (fun K hK => ?_) AllReadyH.nil
    go_simp
    refine hK.out _ _ ?_ (fun hHeldX => ?_)
    · first | exact D2.out.blk.at rfl | exact (D2.out.blk.alloc _).at rfl
    clear hK K hHeld
    rename _ => hHeld
    try simp only [Act.put, List.setIfInBounds_toArray, List.set_cons_zero, List.set_cons_succ]
    refine wpAnyH_ready (rs := [10]) (by kernel_rfl) (by simp) ?_
    refine AllReadyH.cons (o := ⟨some 24, _, _, _, _, _⟩) rfl (fun K hK => ?_) AllReadyH.nil
    refine step_append_lies _ rfl _ _ 32 rfl lo 3 i0 (.int .i64 0) 1 8 Try.underlying32 hi0 hz0 hz1 hz2 rfl (by decide) _ _ _ rfl (r2.alloc _) ⟨wA.heap.size, 0, none⟩ 1 1 [.int .i64 (x.now : Int)] rfl rfl (cell_one_new _ _ _) (by simp [Value.oneCell']) (by decide) (by simp only [maxLen]; first | omega | (simp; omega)) (by first | omega | (simp; omega) | simp) (by have := HA.out.2.size; simp; omega) (wA.heap.size + 1) (by simp) ?_
    intro g2 cap2 wC hown2 hgrow2 hlie2 hlt2
    rw [← HV2.out] at hgrow2 hlie2
    obtain ⟨⟨c8, f8⟩, hend2⟩ := D2.out.grown (j := 2) (by decide) hgrow2 hlie2 hown2
    rw [HV2.out] at c8
    have HE2 := Lib.hid hend2
    have b8 := (D2.out.blk.only (own3_grown D2.out.own (j := 2) (by decide) hgrow2 hlie2 hown2).2.1 (fun e => D2.out.apart e rfl)).at (o := 0) rfl
    clear hown2 hgrow2 hlie2 hlt2 hend2
    refine hK.out _ _ ?_ (fun hHeldX => ?_)
    · exact b8
    clear hK K hHeld
    rename _ => hHeld
    try simp only [Act.put, List.setIfInBounds_toArray, List.set_cons_zero, List.set_cons_succ]
    refine wpAnyH_take (i := 11) (oi := ⟨some 25, _, _, _, _, _⟩) (v := ?_) rfl (by kernel_rfl) (by kernel_rfl) (by kernel_rfl) (fun _ _ _ h => h) (Or.inl ⟨by rfl, ?_⟩) (by assumption) ?_
    rotate_left
    · (intro w hSw; (try dsimp only at hSw); go_simp; try with_reducible rfl)
    try simp only [Act.put, List.setIfInBounds_toArray, List.set_cons_zero, List.set_cons_succ]
    refine wpAnyH_take (i := 12) (oi := ⟨some 26, _, _, _, _, _⟩) (v := ?_) rfl (by kernel_rfl) (by kernel_rfl) (by kernel_rfl) (fun _ _ _ h => h) (Or.inl ⟨by rfl, ?_⟩) (by assumption) ?_
    rotate_left
    · (intro w hSw; (try dsimp only at hSw); go_simp; try with_reducible rfl)
    try simp only [Act.put, List.setIfInBounds_toArray, List.set_cons_zero, List.set_cons_succ]
    refine wpAnyH_ready (rs := [13]) (by kernel_rfl) (by simp) ?_
    refine AllReadyH.cons (o := ⟨none, _, _, _, _, _⟩) rfl (fun K hK => ?_) AllReadyH.nil
    go_simp
    refine hK.out _ _ ?_ (fun hHeldX => ?_)
    · exact HE2.out.1.choose_spec.1.blk.at rfl
    clear hK K hHeld
    rename _ => hHeld
    try simp only [Act.put, List.setIfInBounds_toArray, List.set_cons_zero, List.set_cons_succ]
    refine wpAnyH_done (by kernel_rfl) ?_ _
    refine NoPanic.normal ?_
    go_end0
    exact retired HA.out.1 HA.out.2 HE2.out.1 HE2.out.2
end

end Go.Proofs.Ytkbappdlijmjlaa
