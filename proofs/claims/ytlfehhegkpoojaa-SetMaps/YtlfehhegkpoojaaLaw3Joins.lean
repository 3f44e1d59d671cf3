/- SetJoins' walk. -/
import Derived.Test.YtlfehhegkpoojaaJoin3
import Derived.Test.YtlfehhegkpoojaaLaw3Order
namespace Go.Proofs.Ytlfehhegkpoojaa
open Go.RowKit Go.Shelf

theorem join_comm {A B : List Int} (ha : Up A) (hb : Up B) : joinZ B A = joinZ A B :=
  up_ext (up_joinZ hb ha) (up_joinZ ha hb) fun z => by rw [mem_joinZ ha, mem_joinZ hb]; exact Or.comm
theorem join_twice {A B : List Int} (ha : Up A) (hb : Up B) : joinZ (joinZ A B) B = joinZ A B :=
  up_ext (up_joinZ (up_joinZ ha hb) hb) (up_joinZ ha hb) fun z => by
    rw [mem_joinZ hb, mem_joinZ hb]
    constructor
    · rintro (h | h)
      · exact h
      · exact .inr h
    · exact .inl
theorem join_len1 {A B : List Int} (ha : Up A) (hb : Up B) : A.length ≤ (joinZ A B).length := up_sub_length ha (up_joinZ ha hb) fun _ hz => (mem_joinZ hb).2 (.inl hz)
theorem join_len2 {A B : List Int} (ha : Up A) (hb : Up B) : B.length ≤ (joinZ A B).length := up_sub_length hb (up_joinZ ha hb) fun _ hz => (mem_joinZ hb).2 (.inr hz)

set_option maxRecDepth 100000 in
set_option maxHeartbeats 4000000 in
theorem joins_any (v u : Value) (La Lb : List Int) (x : Int) (w : World) (h : ArgIn w v La) (h' : ArgIn w u Lb) :
    Calls Try.prog 6 #[v, u, .int .i64 x] w fun e w' => e = .returned (.bool true) ∧ Below w.heap.size w w' := by
  obtain ⟨a, cap, rfl, ha⟩ := h
  have HA : Hid (ArgIn w (.slice a La.length cap) La) := (show ArgIn _ _ _ from ⟨a, cap, rfl, ha⟩)
  obtain ⟨b, cap', rfl, hb⟩ := h'
  have HB : Hid (ArgIn w (.slice b Lb.length cap') Lb) := (show ArgIn _ _ _ from ⟨b, cap', rfl, hb⟩)
  clear ha hb
  by_cases hl : 200 < La.length ∨ 200 < Lb.length
  · by_cases hl1 : 200 < La.length
    · go_enter Try.func6, Try.ntmps6
      go_wp2_with fail
      refine (awake3 _).mono ?_
      rintro e w1 ⟨rfl, hB⟩
      clear hl
      go_wp2
      go_ret
      exact ⟨rfl, hB⟩
    · have hl2 : 200 < Lb.length := by omega
      clear hl
      go_enter Try.func6, Try.ntmps6
      go_wp2_with fail
      refine (awake3 _).mono ?_
      rintro e w1 ⟨rfl, hB⟩
      go_wp2
      go_ret
      exact ⟨rfl, hB⟩
  · obtain ⟨hl1, hl2⟩ : ¬ 200 < La.length ∧ ¬ 200 < Lb.length := by omega
    clear hl
    have UA := Lib.hid (ofZ_facts La).1
    have UB := Lib.hid (ofZ_facts Lb).1
    have lA := ofZ_length La
    have lB := ofZ_length Lb
    generalize hA : ofZ La = A at UA lA
    generalize hB : ofZ Lb = B at UB lB
    have EA := Lib.hid hA
    have EB := Lib.hid hB
    clear hA hB
    go_enter Try.func6, Try.ntmps6
    go_wp2_with fail
    refine (awake3 _).mono ?_
    rintro e w1 ⟨rfl, hB1⟩
    go_wp2_with fail
    refine (set_Of _ La _ (HA.out.below hB1) (by omega)).mono ?_
    rintro e w2 ⟨r, rfl, hr, hB2⟩
    rw [EA.out] at hr
    obtain ⟨a7, n7, c7, rfl⟩ := hr.form
    have R2 := Lib.hid hr
    have B2 := Lib.hid (below_step hB1 hB2)
    clear hB1 hB2 hr
    go_wp2_with fail
    refine (set_Of _ Lb _ (HB.out.below B2.out) (by omega)).mono ?_
    rintro e w3 ⟨r, rfl, hr, hB3⟩
    rw [EB.out] at hr
    obtain ⟨a8, n8, c8, rfl⟩ := hr.form
    have R3 := Lib.hid (R2.out.below hB3)
    have S3 := Lib.hid hr
    have B3 := Lib.hid (below_step B2.out hB3)
    clear hB3 hr
    go_wp2_with fail
    have bA := Boxed.new w3 26 (.slice a7 n7 c7)
    have bB := Boxed.new (w3.alloc (.cells #[.slice a7 n7 c7] 26)) 26 (.slice a8 n8 c8)
    rw [World.size_alloc] at bB
    have bA := bA.alloc (.cells #[.slice a8 n8 c8] 26)
    have hb4 : Below w3.heap.size w3 ((w3.alloc (.cells #[.slice a7 n7 c7] 26)).alloc (.cells #[.slice a8 n8 c8] 26)) := ((Below.refl _ _).alloc (Nat.le_refl _) _).alloc (by simp) _
    have z4 : ((w3.alloc (.cells #[.slice a7 n7 c7] 26)).alloc (.cells #[.slice a8 n8 c8] 26)).heap.size = w3.heap.size + 2 := by simp
    have R4 := Lib.hid (R3.out.below hb4)
    have S4 := Lib.hid (S3.out.below hb4)
    have B4 := Lib.hid (below_step B3.out hb4)
    generalize (w3.alloc (.cells #[.slice a7 n7 c7] 26)).alloc (.cells #[.slice a8 n8 c8] 26) = w4 at bA bB hb4 z4 R4 S4 B4 ⊢
    refine (set_Join _ _ A B _ R4.out S4.out (by omega)).mono ?_
    rintro e w5 ⟨r, rfl, hr, hB5⟩
    obtain ⟨a9, n9, c9, rfl⟩ := hr.form
    have bA5 := boxed_below bA hB5 (by omega)
    have bB5 := boxed_below bB hB5 (by omega)
    have R5 := Lib.hid (R4.out.below hB5)
    have S5 := Lib.hid (S4.out.below hB5)
    have U5 := Lib.hid hr
    have B5 := Lib.hid (below_step B4.out hB5)
    have z5 := hB5.size
    clear hB5 hr hb4 bA bB
    go_wp2_with fail
    have bU := Boxed.new w5 26 (.slice a9 n9 c9)
    have bA6 := bA5.alloc (.cells #[.slice a9 n9 c9] 26)
    have bB6 := bB5.alloc (.cells #[.slice a9 n9 c9] 26)
    have hb6 : Below w5.heap.size w5 (w5.alloc (.cells #[.slice a9 n9 c9] 26)) := (Below.refl _ _).alloc (Nat.le_refl _) _
    have z6 : (w5.alloc (.cells #[.slice a9 n9 c9] 26)).heap.size = w5.heap.size + 1 := by simp
    have R6 := Lib.hid (R5.out.below hb6)
    have S6 := Lib.hid (S5.out.below hb6)
    have U6 := Lib.hid (U5.out.below hb6)
    have B6 := Lib.hid (below_step B5.out hb6)
    generalize w5.alloc (.cells #[.slice a9 n9 c9] 26) = w6 at bU bA6 bB6 hb6 z6 R6 S6 U6 B6 ⊢
    have cA := bA6.cell
    have cB := bB6.cell
    have cU := bU.cell
    have pA : w3.heap.size < w6.heap.size := by omega
    have pB : w3.heap.size + 1 < w6.heap.size := by omega
    have pU : w5.heap.size < w6.heap.size := by omega
    have hBc : Below w6.heap.size w6 w6.drew := (Below.refl _ _).drew
    have eC := Lib.hid (join_comm UA.out UB.out)
    have eT := Lib.hid (join_twice UA.out UB.out)
    have hn1 := join_len1 UA.out UB.out
    have hn2 := join_len2 UA.out UB.out
    have hn3 := joinZ_length A B
    have mU := Lib.hid (fun z => mem_joinZ (S := A) (z := z) UB.out)
    have hnU : (joinZ A B).length ≤ 400 := by omega
    have hnT : A.length + B.length ≤ 400 := by omega
    generalize hU : joinZ A B = U at U6 hn1 hn2 hn3 hnU eC eT mU
    have EU := Lib.hid hU
    clear hU bA5 bB5 hb6 R2 R3 S3 R4 S4 R5 S5 U5 B2 B3 B4 B5 bU bA6 bB6
    have q1 : IntKind.i64.wrap ((A.length : Int) + (B.length : Int)) = (A.length : Int) + (B.length : Int) := IntWalk.i64_in _ (by omega)
    have q2 : (U.length : Int) ≤ (A.length : Int) + (B.length : Int) := by omega
    have q3 : (A.length : Int) ≤ (U.length : Int) := by omega
    have q4 : (B.length : Int) ≤ (U.length : Int) := by omega
    have hcases : (x ∈ A ∧ x ∈ U) ∨ (x ∉ A ∧ x ∈ B ∧ x ∈ U) ∨ (x ∉ A ∧ x ∉ B ∧ x ∉ U) := by
      by_cases h1 : x ∈ A
      · exact .inl ⟨h1, (mU.out x).2 (.inl h1)⟩
      · by_cases h2 : x ∈ B
        · exact .inr (.inl ⟨h1, h2, (mU.out x).2 (.inr h2)⟩)
        · exact .inr (.inr ⟨h1, h2, fun h => ((mU.out x).1 h).elim h1 h2⟩)
    rcases hcases with ⟨yA, yU⟩ | ⟨nA, yB, yU⟩ | ⟨nA, nB, nU⟩
    · refine wp_region_noPanic ?_
      refine wp_region_held_drew (S := (fun w' => w'.cell? ⟨w3.heap.size, 0, none⟩ = some (.slice a7 n7 c7) ∧ w'.cell? ⟨w3.heap.size + 1, 0, none⟩ = some (.slice a8 n8 c8) ∧ w'.cell? ⟨w5.heap.size, 0, none⟩ = some (.slice a9 n9 c9))) (by kernel_rfl) ?_ (fun hHeld => ?_)
      · exact ⟨(hBc.cell (p := ⟨w3.heap.size, 0, none⟩) pA).trans cA, (hBc.cell (p := ⟨w3.heap.size + 1, 0, none⟩) pB).trans cB, (hBc.cell (p := ⟨w5.heap.size, 0, none⟩) pU).trans cU⟩
      refine wpAnyH_take (i := 0) (oi := ⟨some 27, _, _, _, _, _⟩) (v := ?va0) rfl (by kernel_rfl) (by kernel_rfl) (by kernel_rfl) (fun _ _ _ h => h) (Or.inl ⟨by rfl, ?hya0⟩) (by assumption) ?resta0
      case hya0 => (intro w hSw; (try dsimp only at hSw); go_simp; try with_reducible rfl)
      try simp only [Act.put, List.setIfInBounds_toArray, List.set_cons_zero, List.set_cons_succ]
      refine wpAnyH_take (i := 2) (oi := ⟨some 29, _, _, _, _, _⟩) (v := ?va2) rfl (by kernel_rfl) (by kernel_rfl) (by kernel_rfl) (fun _ _ _ h => h) (Or.inl ⟨by rfl, ?hya2⟩) (by assumption) ?resta2
      case hya2 => (intro w hSw; (try dsimp only at hSw); go_simp; try with_reducible rfl)
      try simp only [Act.put, List.setIfInBounds_toArray, List.set_cons_zero, List.set_cons_succ]
      refine wpAnyH_take (i := 3) (oi := ⟨some 30, _, _, _, _, _⟩) (v := ?va3) rfl (by kernel_rfl) (by kernel_rfl) (by kernel_rfl) (fun _ _ _ h => h) (Or.inl ⟨by rfl, ?hya3⟩) (by assumption) ?resta3
      case hya3 => (intro w hSw; (try dsimp only at hSw); go_simp; try with_reducible rfl)
      try simp only [Act.put, List.setIfInBounds_toArray, List.set_cons_zero, List.set_cons_succ]
      refine wpAnyH_ready (rs := [1]) (by kernel_rfl) (by simp) ?_
      refine AllReadyH.cons (o := ⟨some 28, _, _, _, _, _⟩) rfl (fun K hK => ?_) AllReadyH.nil
      go_simp
      refine (law_list (.agg #[.slice a9 n9 c9]) U _ (U6.out.below hBc) (by omega)).mono ?_
      rintro e w' ⟨l1, rfl, hl1, hBx⟩
      have hBc := below_step hBc hBx
      go_wp2_with fail
      refine hK.out _ _ ?_ (fun hHeldX => ?_)
      · exact ⟨(hBc.cell (p := ⟨w3.heap.size, 0, none⟩) pA).trans cA, (hBc.cell (p := ⟨w3.heap.size + 1, 0, none⟩) pB).trans cB, (hBc.cell (p := ⟨w5.heap.size, 0, none⟩) pU).trans cU⟩
      clear hK K hHeld
      rename _ => hHeld
      try simp only [Act.put, List.setIfInBounds_toArray, List.set_cons_zero, List.set_cons_succ]
      refine wpAnyH_ready (rs := [4]) (by kernel_rfl) (by simp) ?_
      refine AllReadyH.cons (o := ⟨some 31, _, _, _, _, _⟩) rfl (fun K hK => ?_) AllReadyH.nil
      go_simp
      refine (set_Join (.agg #[.slice a8 n8 c8]) (.agg #[.slice a7 n7 c7]) B A _ (S6.out.below hBc) (R6.out.below hBc) (by omega)).mono ?_
      rintro e w' ⟨r1, rfl, hr1, hBx⟩
      have hBc := below_step hBc hBx
      rw [eC.out] at hr1
      have hl1 := SliceK.below hl1 hBx
      go_wp2_with fail
      refine hK.out _ _ ?_ (fun hHeldX => ?_)
      · exact ⟨(hBc.cell (p := ⟨w3.heap.size, 0, none⟩) pA).trans cA, (hBc.cell (p := ⟨w3.heap.size + 1, 0, none⟩) pB).trans cB, (hBc.cell (p := ⟨w5.heap.size, 0, none⟩) pU).trans cU⟩
      clear hK K hHeld
      rename _ => hHeld
      try simp only [Act.put, List.setIfInBounds_toArray, List.set_cons_zero, List.set_cons_succ]
      refine wpAnyH_ready (rs := [5]) (by kernel_rfl) (by simp) ?_
      refine AllReadyH.cons (o := ⟨some 32, _, _, _, _, _⟩) rfl (fun K hK => ?_) AllReadyH.nil
      go_simp
      refine (law_list r1 U _ hr1 (by omega)).mono ?_
      rintro e w' ⟨l2, rfl, hl2, hBx⟩
      have hBc := below_step hBc hBx
      have hl1 := SliceK.below hl1 hBx
      go_wp2_with fail
      refine hK.out _ _ ?_ (fun hHeldX => ?_)
      · exact ⟨(hBc.cell (p := ⟨w3.heap.size, 0, none⟩) pA).trans cA, (hBc.cell (p := ⟨w3.heap.size + 1, 0, none⟩) pB).trans cB, (hBc.cell (p := ⟨w5.heap.size, 0, none⟩) pU).trans cU⟩
      clear hK K hHeld
      rename _ => hHeld
      try simp only [Act.put, List.setIfInBounds_toArray, List.set_cons_zero, List.set_cons_succ]
      refine wpAnyH_ready (rs := [6]) (by kernel_rfl) (by simp) ?_
      refine AllReadyH.cons (o := ⟨some 33, _, _, _, _, _⟩) rfl (fun K hK => ?_) AllReadyH.nil
      go_simp
      refine (ints_same l1 l2 U U _ hl1 hl2 (by omega) rfl).mono ?_
      rintro e w' ⟨rfl, hBx⟩
      have hBc := below_step hBc hBx
      clear hl1 hl2 hr1
      go_wp2_with fail
      refine hK.out _ _ ?_ (fun hHeldX => ?_)
      · exact ⟨(hBc.cell (p := ⟨w3.heap.size, 0, none⟩) pA).trans cA, (hBc.cell (p := ⟨w3.heap.size + 1, 0, none⟩) pB).trans cB, (hBc.cell (p := ⟨w5.heap.size, 0, none⟩) pU).trans cU⟩
      clear hK K hHeld
      rename _ => hHeld
      try simp only [Act.put, List.setIfInBounds_toArray, List.set_cons_zero, List.set_cons_succ]
      refine wpAnyH_take (i := 7) (oi := ⟨some 34, _, _, _, _, _⟩) (v := ?va7) rfl (by kernel_rfl) (by kernel_rfl) (by kernel_rfl) (fun _ _ _ h => h) (Or.inl ⟨by rfl, ?hya7⟩) (by assumption) ?resta7
      case hya7 => (intro w hSw; (try dsimp only at hSw); go_simp; try with_reducible rfl)
      try simp only [Act.put, List.setIfInBounds_toArray, List.set_cons_zero, List.set_cons_succ]
      refine wpAnyH_take (i := 8) (oi := ⟨some 35, _, _, _, _, _⟩) (v := ?va8) rfl (by kernel_rfl) (by kernel_rfl) (by kernel_rfl) (fun _ _ _ h => h) (Or.inl ⟨by rfl, ?hya8⟩) (by assumption) ?resta8
      case hya8 => (intro w hSw; (try dsimp only at hSw); go_simp; try with_reducible rfl)
      try simp only [Act.put, List.setIfInBounds_toArray, List.set_cons_zero, List.set_cons_succ]
      refine wpAnyH_take (i := 9) (oi := ⟨some 36, _, _, _, _, _⟩) (v := ?va9) rfl (by kernel_rfl) (by kernel_rfl) (by kernel_rfl) (fun _ _ _ h => h) (Or.inl ⟨by rfl, ?hya9⟩) (by assumption) ?resta9
      case hya9 => (intro w hSw; (try dsimp only at hSw); go_simp; try with_reducible rfl)
      try simp only [Act.put, List.setIfInBounds_toArray, List.set_cons_zero, List.set_cons_succ]
      refine wpAnyH_take (i := 12) (oi := ⟨some 39, _, _, _, _, _⟩) (v := ?va12) rfl (by kernel_rfl) (by kernel_rfl) (by kernel_rfl) (fun _ _ _ h => h) (Or.inl ⟨by rfl, ?hya12⟩) (by assumption) ?resta12
      case hya12 => (intro w hSw; (try dsimp only at hSw); go_simp; try with_reducible rfl)
      try simp only [Act.put, List.setIfInBounds_toArray, List.set_cons_zero, List.set_cons_succ]
      refine wpAnyH_ready (rs := [10]) (by kernel_rfl) (by simp) ?_
      refine AllReadyH.cons (o := ⟨some 37, _, _, _, _, _⟩) rfl (fun K hK => ?_) AllReadyH.nil
      go_simp
      refine (set_Join (.agg #[.slice a9 n9 c9]) (.agg #[.slice a8 n8 c8]) U B _ (U6.out.below hBc) (S6.out.below hBc) (by omega)).mono ?_
      rintro e w' ⟨r2, rfl, hr2, hBx⟩
      have hBc := below_step hBc hBx
      rw [eT.out] at hr2
      go_wp2_with fail
      refine hK.out _ _ ?_ (fun hHeldX => ?_)
      · exact ⟨(hBc.cell (p := ⟨w3.heap.size, 0, none⟩) pA).trans cA, (hBc.cell (p := ⟨w3.heap.size + 1, 0, none⟩) pB).trans cB, (hBc.cell (p := ⟨w5.heap.size, 0, none⟩) pU).trans cU⟩
      clear hK K hHeld
      rename _ => hHeld
      try simp only [Act.put, List.setIfInBounds_toArray, List.set_cons_zero, List.set_cons_succ]
      refine wpAnyH_ready (rs := [11]) (by kernel_rfl) (by simp) ?_
      refine AllReadyH.cons (o := ⟨some 38, _, _, _, _, _⟩) rfl (fun K hK => ?_) AllReadyH.nil
      go_simp
      refine (law_list r2 U _ hr2 (by omega)).mono ?_
      rintro e w' ⟨l3, rfl, hl3, hBx⟩
      have hBc := below_step hBc hBx
      go_wp2_with fail
      refine hK.out _ _ ?_ (fun hHeldX => ?_)
      · exact ⟨(hBc.cell (p := ⟨w3.heap.size, 0, none⟩) pA).trans cA, (hBc.cell (p := ⟨w3.heap.size + 1, 0, none⟩) pB).trans cB, (hBc.cell (p := ⟨w5.heap.size, 0, none⟩) pU).trans cU⟩
      clear hK K hHeld
      rename _ => hHeld
      try simp only [Act.put, List.setIfInBounds_toArray, List.set_cons_zero, List.set_cons_succ]
      refine wpAnyH_ready (rs := [13]) (by kernel_rfl) (by simp) ?_
      refine AllReadyH.cons (o := ⟨some 40, _, _, _, _, _⟩) rfl (fun K hK => ?_) AllReadyH.nil
      go_simp
      refine (law_list (.agg #[.slice a9 n9 c9]) U _ (U6.out.below hBc) (by omega)).mono ?_
      rintro e w' ⟨l4, rfl, hl4, hBx⟩
      have hBc := below_step hBc hBx
      have hl3 := SliceK.below hl3 hBx
      go_wp2_with fail
      refine hK.out _ _ ?_ (fun hHeldX => ?_)
      · exact ⟨(hBc.cell (p := ⟨w3.heap.size, 0, none⟩) pA).trans cA, (hBc.cell (p := ⟨w3.heap.size + 1, 0, none⟩) pB).trans cB, (hBc.cell (p := ⟨w5.heap.size, 0, none⟩) pU).trans cU⟩
      clear hK K hHeld
      rename _ => hHeld
      try simp only [Act.put, List.setIfInBounds_toArray, List.set_cons_zero, List.set_cons_succ]
      refine wpAnyH_ready (rs := [14]) (by kernel_rfl) (by simp) ?_
      refine AllReadyH.cons (o := ⟨some 41, _, _, _, _, _⟩) rfl (fun K hK => ?_) AllReadyH.nil
      go_simp
      refine (ints_same l3 l4 U U _ hl3 hl4 (by omega) rfl).mono ?_
      rintro e w' ⟨rfl, hBx⟩
      have hBc := below_step hBc hBx
      clear hl3 hl4 hr2
      go_wp2_with fail
      refine hK.out _ _ ?_ (fun hHeldX => ?_)
      · exact ⟨(hBc.cell (p := ⟨w3.heap.size, 0, none⟩) pA).trans cA, (hBc.cell (p := ⟨w3.heap.size + 1, 0, none⟩) pB).trans cB, (hBc.cell (p := ⟨w5.heap.size, 0, none⟩) pU).trans cU⟩
      clear hK K hHeld
      rename _ => hHeld
      try simp only [Act.put, List.setIfInBounds_toArray, List.set_cons_zero, List.set_cons_succ]
      refine wpAnyH_take (i := 15) (oi := ⟨some 42, _, _, _, _, _⟩) (v := ?va15) rfl (by kernel_rfl) (by kernel_rfl) (by kernel_rfl) (fun _ _ _ h => h) (Or.inl ⟨by rfl, ?hya15⟩) (by assumption) ?resta15
      case hya15 => (intro w hSw; (try dsimp only at hSw); go_simp; try with_reducible rfl)
      try simp only [Act.put, List.setIfInBounds_toArray, List.set_cons_zero, List.set_cons_succ]
      refine wpAnyH_take (i := 16) (oi := ⟨some 43, _, _, _, _, _⟩) (v := ?va16) rfl (by kernel_rfl) (by kernel_rfl) (by kernel_rfl) (fun _ _ _ h => h) (Or.inl ⟨by rfl, ?hya16⟩) (by assumption) ?resta16
      case hya16 => (intro w hSw; (try dsimp only at hSw); go_simp; try with_reducible rfl)
      try simp only [Act.put, List.setIfInBounds_toArray, List.set_cons_zero, List.set_cons_succ]
      refine wpAnyH_take (i := 17) (oi := ⟨some 44, _, _, _, _, _⟩) (v := ?va17) rfl (by kernel_rfl) (by kernel_rfl) (by kernel_rfl) (fun _ _ _ h => h) (Or.inl ⟨by rfl, ?hya17⟩) (by assumption) ?resta17
      case hya17 => (intro w hSw; (try dsimp only at hSw); go_simp; try with_reducible rfl)
      try simp only [Act.put, List.setIfInBounds_toArray, List.set_cons_zero, List.set_cons_succ]
      refine wpAnyH_take (i := 18) (oi := ⟨some 45, _, _, _, _, _⟩) (v := ?va18) rfl (by kernel_rfl) (by kernel_rfl) (by kernel_rfl) (fun _ _ _ h => h) (Or.inl ⟨by rfl, ?hya18⟩) (by assumption) ?resta18
      case hya18 => (intro w hSw; (try dsimp only at hSw); go_simp; try with_reducible rfl)
      try simp only [Act.put, List.setIfInBounds_toArray, List.set_cons_zero, List.set_cons_succ]
      refine wpAnyH_take (i := 20) (oi := ⟨some 47, _, _, _, _, _⟩) (v := ?va20) rfl (by kernel_rfl) (by kernel_rfl) (by kernel_rfl) (fun _ _ _ h => h) (Or.inl ⟨by rfl, ?hya20⟩) (by assumption) ?resta20
      case hya20 => (intro w hSw; (try dsimp only at hSw); go_simp; try with_reducible rfl)
      try simp only [Act.put, List.setIfInBounds_toArray, List.set_cons_zero, List.set_cons_succ]
      refine wpAnyH_take (i := 21) (oi := ⟨some 48, _, _, _, _, _⟩) (v := ?va21) rfl (by kernel_rfl) (by kernel_rfl) (by kernel_rfl) (fun _ _ _ h => h) (Or.inl ⟨by rfl, ?hya21⟩) (by assumption) ?resta21
      case hya21 => (intro w hSw; (try dsimp only at hSw); go_simp; try with_reducible rfl)
      try simp only [Act.put, List.setIfInBounds_toArray, List.set_cons_zero, List.set_cons_succ]
      refine wpAnyH_ready (rs := [19]) (by kernel_rfl) (by simp) ?_
      refine AllReadyH.cons (o := ⟨some 46, _, _, _, _, _⟩) rfl (fun K hK => ?_) AllReadyH.nil
      go_simp
      refine (has_yes (.agg #[.slice a9 n9 c9]) U x _ (U6.out.below hBc) (by omega) yU).mono ?_
      rintro e w' ⟨rfl, hBx⟩
      have hBc := below_step hBc hBx
      go_wp2_with fail
      refine hK.out _ _ ?_ (fun hHeldX => ?_)
      · exact ⟨(hBc.cell (p := ⟨w3.heap.size, 0, none⟩) pA).trans cA, (hBc.cell (p := ⟨w3.heap.size + 1, 0, none⟩) pB).trans cB, (hBc.cell (p := ⟨w5.heap.size, 0, none⟩) pU).trans cU⟩
      clear hK K hHeld
      rename _ => hHeld
      try simp only [Act.put, List.setIfInBounds_toArray, List.set_cons_zero, List.set_cons_succ]
      refine wpAnyH_ready (rs := [22]) (by kernel_rfl) (by simp) ?_
      refine AllReadyH.cons (o := ⟨some 49, _, _, _, _, _⟩) rfl (fun K hK => ?_) AllReadyH.nil
      go_simp
      refine (has_yes (.agg #[.slice a7 n7 c7]) A x _ (R6.out.below hBc) (by omega) yA).mono ?_
      rintro e w' ⟨rfl, hBx⟩
      have hBc := below_step hBc hBx
      go_wp2_with fail
      refine hK.out _ _ ?_ (fun hHeldX => ?_)
      · exact ⟨(hBc.cell (p := ⟨w3.heap.size, 0, none⟩) pA).trans cA, (hBc.cell (p := ⟨w3.heap.size + 1, 0, none⟩) pB).trans cB, (hBc.cell (p := ⟨w5.heap.size, 0, none⟩) pU).trans cU⟩
      clear hK K hHeld
      rename _ => hHeld
      try simp only [Act.put, List.setIfInBounds_toArray, List.set_cons_zero, List.set_cons_succ]
      refine wpAnyH_take (i := 23) (oi := ⟨some 50, _, _, _, _, _⟩) (v := ?va23) rfl (by kernel_rfl) (by kernel_rfl) (by kernel_rfl) (fun _ _ _ h => h) (Or.inl ⟨by rfl, ?hya23⟩) (by assumption) ?resta23
      case hya23 => (intro w hSw; (try dsimp only at hSw); go_simp; try with_reducible rfl)
      try simp only [Act.put, List.setIfInBounds_toArray, List.set_cons_zero, List.set_cons_succ]
      refine wpAnyH_take (i := 24) (oi := ⟨some 51, _, _, _, _, _⟩) (v := undef) rfl (by kernel_rfl) (by kernel_rfl) (by kernel_rfl) (fun _ _ _ h => h) (Or.inr ⟨by rfl, rfl⟩) (by assumption) ?_
      try simp only [Act.put, List.setIfInBounds_toArray, List.set_cons_zero, List.set_cons_succ]
      refine wpAnyH_take (i := 25) (oi := ⟨some 52, _, _, _, _, _⟩) (v := undef) rfl (by kernel_rfl) (by kernel_rfl) (by kernel_rfl) (fun _ _ _ h => h) (Or.inr ⟨by rfl, rfl⟩) (by assumption) ?_
      try simp only [Act.put, List.setIfInBounds_toArray, List.set_cons_zero, List.set_cons_succ]
      refine wpAnyH_take (i := 26) (oi := ⟨some 53, _, _, _, _, _⟩) (v := undef) rfl (by kernel_rfl) (by kernel_rfl) (by kernel_rfl) (fun _ _ _ h => h) (Or.inr ⟨by rfl, rfl⟩) (by assumption) ?_
      try simp only [Act.put, List.setIfInBounds_toArray, List.set_cons_zero, List.set_cons_succ]
      refine wpAnyH_take (i := 27) (oi := ⟨some 54, _, _, _, _, _⟩) (v := ?va27) rfl (by kernel_rfl) (by kernel_rfl) (by kernel_rfl) (fun _ _ _ h => h) (Or.inl ⟨by rfl, ?hya27⟩) (by assumption) ?resta27
      case hya27 => (intro w hSw; (try dsimp only at hSw); go_simp; try with_reducible rfl)
      try simp only [Act.put, List.setIfInBounds_toArray, List.set_cons_zero, List.set_cons_succ]
      refine wpAnyH_take (i := 28) (oi := ⟨some 55, _, _, _, _, _⟩) (v := ?va28) rfl (by kernel_rfl) (by kernel_rfl) (by kernel_rfl) (fun _ _ _ h => h) (Or.inl ⟨by rfl, ?hya28⟩) (by assumption) ?resta28
      case hya28 => (intro w hSw; (try dsimp only at hSw); go_simp; try with_reducible rfl)
      try simp only [Act.put, List.setIfInBounds_toArray, List.set_cons_zero, List.set_cons_succ]
      refine wpAnyH_take (i := 29) (oi := ⟨some 56, _, _, _, _, _⟩) (v := ?va29) rfl (by kernel_rfl) (by kernel_rfl) (by kernel_rfl) (fun _ _ _ h => h) (Or.inl ⟨by rfl, ?hya29⟩) (by assumption) ?resta29
      case hya29 => (intro w hSw; (try dsimp only at hSw); go_simp; try with_reducible rfl)
      try simp only [Act.put, List.setIfInBounds_toArray, List.set_cons_zero, List.set_cons_succ]
      refine wpAnyH_take (i := 30) (oi := ⟨some 57, _, _, _, _, _⟩) (v := ?va30) rfl (by kernel_rfl) (by kernel_rfl) (by kernel_rfl) (fun _ _ _ h => h) (Or.inl ⟨by rfl, ?hya30⟩) (by assumption) ?resta30
      case hya30 => (intro w hSw; (try dsimp only at hSw); go_simp; try with_reducible rfl)
      try simp only [Act.put, List.setIfInBounds_toArray, List.set_cons_zero, List.set_cons_succ]
      refine wpAnyH_take (i := 31) (oi := ⟨some 58, _, _, _, _, _⟩) (v := ?va31) rfl (by kernel_rfl) (by kernel_rfl) (by kernel_rfl) (fun _ _ _ h => h) (Or.inl ⟨by rfl, ?hya31⟩) (by assumption) ?resta31
      case hya31 => (intro w hSw; (try dsimp only at hSw); go_simp; try with_reducible rfl)
      try simp only [Act.put, List.setIfInBounds_toArray, List.set_cons_zero, List.set_cons_succ]
      refine wpAnyH_take (i := 33) (oi := ⟨some 60, _, _, _, _, _⟩) (v := ?va33) rfl (by kernel_rfl) (by kernel_rfl) (by kernel_rfl) (fun _ _ _ h => h) (Or.inl ⟨by rfl, ?hya33⟩) (by assumption) ?resta33
      case hya33 => (intro w hSw; (try dsimp only at hSw); go_simp; try with_reducible rfl)
      try simp only [Act.put, List.setIfInBounds_toArray, List.set_cons_zero, List.set_cons_succ]
      refine wpAnyH_take (i := 35) (oi := ⟨some 62, _, _, _, _, _⟩) (v := ?va35) rfl (by kernel_rfl) (by kernel_rfl) (by kernel_rfl) (fun _ _ _ h => h) (Or.inl ⟨by rfl, ?hya35⟩) (by assumption) ?resta35
      case hya35 => (intro w hSw; (try dsimp only at hSw); go_simp; try with_reducible rfl)
      try simp only [Act.put, List.setIfInBounds_toArray, List.set_cons_zero, List.set_cons_succ]
      refine wpAnyH_ready (rs := [32]) (by kernel_rfl) (by simp) ?_
      refine AllReadyH.cons (o := ⟨some 59, _, _, _, _, _⟩) rfl (fun K hK => ?_) AllReadyH.nil
      go_simp
      refine (set_Len (.agg #[.slice a9 n9 c9]) U _ (U6.out.below hBc)).mono ?_
      rintro e w' ⟨rfl, hBx⟩
      have hBc := below_step hBc hBx
      go_wp2_with fail
      refine hK.out _ _ ?_ (fun hHeldX => ?_)
      · exact ⟨(hBc.cell (p := ⟨w3.heap.size, 0, none⟩) pA).trans cA, (hBc.cell (p := ⟨w3.heap.size + 1, 0, none⟩) pB).trans cB, (hBc.cell (p := ⟨w5.heap.size, 0, none⟩) pU).trans cU⟩
      clear hK K hHeld
      rename _ => hHeld
      try simp only [Act.put, List.setIfInBounds_toArray, List.set_cons_zero, List.set_cons_succ]
      refine wpAnyH_ready (rs := [34]) (by kernel_rfl) (by simp) ?_
      refine AllReadyH.cons (o := ⟨some 61, _, _, _, _, _⟩) rfl (fun K hK => ?_) AllReadyH.nil
      go_simp
      refine (set_Len (.agg #[.slice a7 n7 c7]) A _ (R6.out.below hBc)).mono ?_
      rintro e w' ⟨rfl, hBx⟩
      have hBc := below_step hBc hBx
      go_wp2_with fail
      refine hK.out _ _ ?_ (fun hHeldX => ?_)
      · exact ⟨(hBc.cell (p := ⟨w3.heap.size, 0, none⟩) pA).trans cA, (hBc.cell (p := ⟨w3.heap.size + 1, 0, none⟩) pB).trans cB, (hBc.cell (p := ⟨w5.heap.size, 0, none⟩) pU).trans cU⟩
      clear hK K hHeld
      rename _ => hHeld
      try simp only [Act.put, List.setIfInBounds_toArray, List.set_cons_zero, List.set_cons_succ]
      refine wpAnyH_ready (rs := [36]) (by kernel_rfl) (by simp) ?_
      refine AllReadyH.cons (o := ⟨some 63, _, _, _, _, _⟩) rfl (fun K hK => ?_) AllReadyH.nil
      go_simp
      refine (set_Len (.agg #[.slice a8 n8 c8]) B _ (S6.out.below hBc)).mono ?_
      rintro e w' ⟨rfl, hBx⟩
      have hBc := below_step hBc hBx
      go_wp2_with fail
      refine hK.out _ _ ?_ (fun hHeldX => ?_)
      · exact ⟨(hBc.cell (p := ⟨w3.heap.size, 0, none⟩) pA).trans cA, (hBc.cell (p := ⟨w3.heap.size + 1, 0, none⟩) pB).trans cB, (hBc.cell (p := ⟨w5.heap.size, 0, none⟩) pU).trans cU⟩
      clear hK K hHeld
      rename _ => hHeld
      try simp only [Act.put, List.setIfInBounds_toArray, List.set_cons_zero, List.set_cons_succ]
      refine wpAnyH_take (i := 37) (oi := ⟨some 64, _, _, _, _, _⟩) (v := ?va37) rfl (by kernel_rfl) (by kernel_rfl) (by kernel_rfl) (fun _ _ _ h => h) (Or.inl ⟨by rfl, ?hya37⟩) (by assumption) ?resta37
      case hya37 => (intro w hSw; (try dsimp only at hSw); go_simp; try with_reducible rfl)
      try simp only [Act.put, List.setIfInBounds_toArray, List.set_cons_zero, List.set_cons_succ]
      refine wpAnyH_take (i := 38) (oi := ⟨some 65, _, _, _, _, _⟩) (v := ?va38) rfl (by kernel_rfl) (by kernel_rfl) (by kernel_rfl) (fun _ _ _ h => h) (Or.inl ⟨by rfl, ?hya38⟩) (by assumption) ?resta38
      case hya38 => (intro w hSw; (try dsimp only at hSw); go_simp; try with_reducible rfl)
      try simp only [Act.put, List.setIfInBounds_toArray, List.set_cons_zero, List.set_cons_succ]
      refine wpAnyH_take (i := 39) (oi := ⟨some 66, _, _, _, _, _⟩) (v := ?va39) rfl (by kernel_rfl) (by kernel_rfl) (by kernel_rfl) (fun _ _ _ h => h) (Or.inl ⟨by rfl, ?hya39⟩) (by assumption) ?resta39
      case hya39 => (intro w hSw; (try dsimp only at hSw); go_simp; try with_reducible rfl)
      try simp only [Act.put, List.setIfInBounds_toArray, List.set_cons_zero, List.set_cons_succ]
      refine wpAnyH_take (i := 40) (oi := ⟨some 67, _, _, _, _, _⟩) (v := ?va40) rfl (by kernel_rfl) (by kernel_rfl) (by kernel_rfl) (fun _ _ _ h => h) (Or.inl ⟨by rfl, ?hya40⟩) (by assumption) ?resta40
      case hya40 => (intro w hSw; (try dsimp only at hSw); go_simp; try with_reducible rfl)
      try simp only [Act.put, List.setIfInBounds_toArray, List.set_cons_zero, List.set_cons_succ]
      refine wpAnyH_take (i := 41) (oi := ⟨some 68, _, _, _, _, _⟩) (v := ?va41) rfl (by kernel_rfl) (by kernel_rfl) (by kernel_rfl) (fun _ _ _ h => h) (Or.inl ⟨by rfl, ?hya41⟩) (by assumption) ?resta41
      case hya41 => (intro w hSw; (try dsimp only at hSw); go_simp; try with_reducible rfl)
      try simp only [Act.put, List.setIfInBounds_toArray, List.set_cons_zero, List.set_cons_succ]
      refine wpAnyH_take (i := 43) (oi := ⟨some 70, _, _, _, _, _⟩) (v := ?va43) rfl (by kernel_rfl) (by kernel_rfl) (by kernel_rfl) (fun _ _ _ h => h) (Or.inl ⟨by rfl, ?hya43⟩) (by assumption) ?resta43
      case hya43 => (intro w hSw; (try dsimp only at hSw); go_simp; try with_reducible rfl)
      try simp only [Act.put, List.setIfInBounds_toArray, List.set_cons_zero, List.set_cons_succ]
      refine wpAnyH_take (i := 45) (oi := ⟨some 72, _, _, _, _, _⟩) (v := ?va45) rfl (by kernel_rfl) (by kernel_rfl) (by kernel_rfl) (fun _ _ _ h => h) (Or.inl ⟨by rfl, ?hya45⟩) (by assumption) ?resta45
      case hya45 => (intro w hSw; (try dsimp only at hSw); go_simp; try with_reducible rfl)
      try simp only [Act.put, List.setIfInBounds_toArray, List.set_cons_zero, List.set_cons_succ]
      refine wpAnyH_ready (rs := [42]) (by kernel_rfl) (by simp) ?_
      refine AllReadyH.cons (o := ⟨some 69, _, _, _, _, _⟩) rfl (fun K hK => ?_) AllReadyH.nil
      go_simp
      refine (set_Len (.agg #[.slice a9 n9 c9]) U _ (U6.out.below hBc)).mono ?_
      rintro e w' ⟨rfl, hBx⟩
      have hBc := below_step hBc hBx
      go_wp2_with fail
      refine hK.out _ _ ?_ (fun hHeldX => ?_)
      · exact ⟨(hBc.cell (p := ⟨w3.heap.size, 0, none⟩) pA).trans cA, (hBc.cell (p := ⟨w3.heap.size + 1, 0, none⟩) pB).trans cB, (hBc.cell (p := ⟨w5.heap.size, 0, none⟩) pU).trans cU⟩
      clear hK K hHeld
      rename _ => hHeld
      try simp only [Act.put, List.setIfInBounds_toArray, List.set_cons_zero, List.set_cons_succ]
      refine wpAnyH_ready (rs := [44]) (by kernel_rfl) (by simp) ?_
      refine AllReadyH.cons (o := ⟨some 71, _, _, _, _, _⟩) rfl (fun K hK => ?_) AllReadyH.nil
      go_simp
      refine (set_Len (.agg #[.slice a7 n7 c7]) A _ (R6.out.below hBc)).mono ?_
      rintro e w' ⟨rfl, hBx⟩
      have hBc := below_step hBc hBx
      go_wp2_with fail
      refine hK.out _ _ ?_ (fun hHeldX => ?_)
      · exact ⟨(hBc.cell (p := ⟨w3.heap.size, 0, none⟩) pA).trans cA, (hBc.cell (p := ⟨w3.heap.size + 1, 0, none⟩) pB).trans cB, (hBc.cell (p := ⟨w5.heap.size, 0, none⟩) pU).trans cU⟩
      clear hK K hHeld
      rename _ => hHeld
      try simp only [Act.put, List.setIfInBounds_toArray, List.set_cons_zero, List.set_cons_succ]
      refine wpAnyH_ready (rs := [46]) (by kernel_rfl) (by simp) ?_
      refine AllReadyH.cons (o := ⟨some 73, _, _, _, _, _⟩) rfl (fun K hK => ?_) AllReadyH.nil
      go_simp
      refine (set_Len (.agg #[.slice a8 n8 c8]) B _ (S6.out.below hBc)).mono ?_
      rintro e w' ⟨rfl, hBx⟩
      have hBc := below_step hBc hBx
      go_wp2_with fail
      refine hK.out _ _ ?_ (fun hHeldX => ?_)
      · exact ⟨(hBc.cell (p := ⟨w3.heap.size, 0, none⟩) pA).trans cA, (hBc.cell (p := ⟨w3.heap.size + 1, 0, none⟩) pB).trans cB, (hBc.cell (p := ⟨w5.heap.size, 0, none⟩) pU).trans cU⟩
      clear hK K hHeld
      rename _ => hHeld
      try simp only [Act.put, List.setIfInBounds_toArray, List.set_cons_zero, List.set_cons_succ]
      refine wpAnyH_take (i := 47) (oi := ⟨some 74, _, _, _, _, _⟩) (v := ?va47) rfl (by kernel_rfl) (by kernel_rfl) (by kernel_rfl) (fun _ _ _ h => h) (Or.inl ⟨by rfl, ?hya47⟩) (by assumption) ?resta47
      case hya47 => (intro w hSw; (try dsimp only at hSw); go_simp; try with_reducible rfl)
      try simp only [Act.put, List.setIfInBounds_toArray, List.set_cons_zero, List.set_cons_succ]
      refine wpAnyH_take (i := 48) (oi := ⟨some 75, _, _, _, _, _⟩) (v := ?va48) rfl (by kernel_rfl) (by kernel_rfl) (by kernel_rfl) (fun _ _ _ h => h) (Or.inl ⟨by rfl, ?hya48⟩) (by assumption) ?resta48
      case hya48 => (intro w hSw; (try dsimp only at hSw); go_simp; try with_reducible rfl)
      try simp only [Act.put, List.setIfInBounds_toArray, List.set_cons_zero, List.set_cons_succ]
      refine wpAnyH_take (i := 49) (oi := ⟨some 76, _, _, _, _, _⟩) (v := ?va49) rfl (by kernel_rfl) (by kernel_rfl) (by kernel_rfl) (fun _ _ _ h => h) (Or.inl ⟨by rfl, ?hya49⟩) (by assumption) ?resta49
      case hya49 => (intro w hSw; (try dsimp only at hSw); go_simp; try with_reducible rfl)
      try simp only [Act.put, List.setIfInBounds_toArray, List.set_cons_zero, List.set_cons_succ]
      refine wpAnyH_take (i := 50) (oi := ⟨some 6, _, _, _, _, _⟩) (v := ?va50) rfl (by kernel_rfl) (by kernel_rfl) (by kernel_rfl) (fun _ _ _ h => h) (Or.inl ⟨by rfl, ?hya50⟩) (by assumption) ?resta50
      case hya50 => (intro w hSw; (try dsimp only at hSw); go_simp; try with_reducible rfl)
      try simp only [Act.put, List.setIfInBounds_toArray, List.set_cons_zero, List.set_cons_succ]
      refine wpAnyH_done (by kernel_rfl) ?_ _
      refine NoPanic.normal ?_
      go_wp2
      go_ret
      refine ⟨?_, below_step B6.out hBc⟩
      show Ending.returned (.bool (decide (max (A.length : Int) (B.length : Int) ≤ (U.length : Int)))) = _
      rw [decide_eq_true (Int.max_le.2 ⟨q3, q4⟩)]
    · refine wp_region_noPanic ?_
      refine wp_region_held_drew (S := (fun w' => w'.cell? ⟨w3.heap.size, 0, none⟩ = some (.slice a7 n7 c7) ∧ w'.cell? ⟨w3.heap.size + 1, 0, none⟩ = some (.slice a8 n8 c8) ∧ w'.cell? ⟨w5.heap.size, 0, none⟩ = some (.slice a9 n9 c9))) (by kernel_rfl) ?_ (fun hHeld => ?_)
      · exact ⟨(hBc.cell (p := ⟨w3.heap.size, 0, none⟩) pA).trans cA, (hBc.cell (p := ⟨w3.heap.size + 1, 0, none⟩) pB).trans cB, (hBc.cell (p := ⟨w5.heap.size, 0, none⟩) pU).trans cU⟩
      refine wpAnyH_take (i := 0) (oi := ⟨some 27, _, _, _, _, _⟩) (v := ?vb0) rfl (by kernel_rfl) (by kernel_rfl) (by kernel_rfl) (fun _ _ _ h => h) (Or.inl ⟨by rfl, ?hyb0⟩) (by assumption) ?restb0
      case hyb0 => (intro w hSw; (try dsimp only at hSw); go_simp; try with_reducible rfl)
      try simp only [Act.put, List.setIfInBounds_toArray, List.set_cons_zero, List.set_cons_succ]
      refine wpAnyH_take (i := 2) (oi := ⟨some 29, _, _, _, _, _⟩) (v := ?vb2) rfl (by kernel_rfl) (by kernel_rfl) (by kernel_rfl) (fun _ _ _ h => h) (Or.inl ⟨by rfl, ?hyb2⟩) (by assumption) ?restb2
      case hyb2 => (intro w hSw; (try dsimp only at hSw); go_simp; try with_reducible rfl)
      try simp only [Act.put, List.setIfInBounds_toArray, List.set_cons_zero, List.set_cons_succ]
      refine wpAnyH_take (i := 3) (oi := ⟨some 30, _, _, _, _, _⟩) (v := ?vb3) rfl (by kernel_rfl) (by kernel_rfl) (by kernel_rfl) (fun _ _ _ h => h) (Or.inl ⟨by rfl, ?hyb3⟩) (by assumption) ?restb3
      case hyb3 => (intro w hSw; (try dsimp only at hSw); go_simp; try with_reducible rfl)
      try simp only [Act.put, List.setIfInBounds_toArray, List.set_cons_zero, List.set_cons_succ]
      refine wpAnyH_ready (rs := [1]) (by kernel_rfl) (by simp) ?_
      refine AllReadyH.cons (o := ⟨some 28, _, _, _, _, _⟩) rfl (fun K hK => ?_) AllReadyH.nil
      go_simp
      refine (law_list (.agg #[.slice a9 n9 c9]) U _ (U6.out.below hBc) (by omega)).mono ?_
      rintro e w' ⟨l1, rfl, hl1, hBx⟩
      have hBc := below_step hBc hBx
      go_wp2_with fail
      refine hK.out _ _ ?_ (fun hHeldX => ?_)
      · exact ⟨(hBc.cell (p := ⟨w3.heap.size, 0, none⟩) pA).trans cA, (hBc.cell (p := ⟨w3.heap.size + 1, 0, none⟩) pB).trans cB, (hBc.cell (p := ⟨w5.heap.size, 0, none⟩) pU).trans cU⟩
      clear hK K hHeld
      rename _ => hHeld
      try simp only [Act.put, List.setIfInBounds_toArray, List.set_cons_zero, List.set_cons_succ]
      refine wpAnyH_ready (rs := [4]) (by kernel_rfl) (by simp) ?_
      refine AllReadyH.cons (o := ⟨some 31, _, _, _, _, _⟩) rfl (fun K hK => ?_) AllReadyH.nil
      go_simp
      refine (set_Join (.agg #[.slice a8 n8 c8]) (.agg #[.slice a7 n7 c7]) B A _ (S6.out.below hBc) (R6.out.below hBc) (by omega)).mono ?_
      rintro e w' ⟨r1, rfl, hr1, hBx⟩
      have hBc := below_step hBc hBx
      rw [eC.out] at hr1
      have hl1 := SliceK.below hl1 hBx
      go_wp2_with fail
      refine hK.out _ _ ?_ (fun hHeldX => ?_)
      · exact ⟨(hBc.cell (p := ⟨w3.heap.size, 0, none⟩) pA).trans cA, (hBc.cell (p := ⟨w3.heap.size + 1, 0, none⟩) pB).trans cB, (hBc.cell (p := ⟨w5.heap.size, 0, none⟩) pU).trans cU⟩
      clear hK K hHeld
      rename _ => hHeld
      try simp only [Act.put, List.setIfInBounds_toArray, List.set_cons_zero, List.set_cons_succ]
      refine wpAnyH_ready (rs := [5]) (by kernel_rfl) (by simp) ?_
      refine AllReadyH.cons (o := ⟨some 32, _, _, _, _, _⟩) rfl (fun K hK => ?_) AllReadyH.nil
      go_simp
      refine (law_list r1 U _ hr1 (by omega)).mono ?_
      rintro e w' ⟨l2, rfl, hl2, hBx⟩
      have hBc := below_step hBc hBx
      have hl1 := SliceK.below hl1 hBx
      go_wp2_with fail
      refine hK.out _ _ ?_ (fun hHeldX => ?_)
      · exact ⟨(hBc.cell (p := ⟨w3.heap.size, 0, none⟩) pA).trans cA, (hBc.cell (p := ⟨w3.heap.size + 1, 0, none⟩) pB).trans cB, (hBc.cell (p := ⟨w5.heap.size, 0, none⟩) pU).trans cU⟩
      clear hK K hHeld
      rename _ => hHeld
      try simp only [Act.put, List.setIfInBounds_toArray, List.set_cons_zero, List.set_cons_succ]
      refine wpAnyH_ready (rs := [6]) (by kernel_rfl) (by simp) ?_
      refine AllReadyH.cons (o := ⟨some 33, _, _, _, _, _⟩) rfl (fun K hK => ?_) AllReadyH.nil
      go_simp
      refine (ints_same l1 l2 U U _ hl1 hl2 (by omega) rfl).mono ?_
      rintro e w' ⟨rfl, hBx⟩
      have hBc := below_step hBc hBx
      clear hl1 hl2 hr1
      go_wp2_with fail
      refine hK.out _ _ ?_ (fun hHeldX => ?_)
      · exact ⟨(hBc.cell (p := ⟨w3.heap.size, 0, none⟩) pA).trans cA, (hBc.cell (p := ⟨w3.heap.size + 1, 0, none⟩) pB).trans cB, (hBc.cell (p := ⟨w5.heap.size, 0, none⟩) pU).trans cU⟩
      clear hK K hHeld
      rename _ => hHeld
      try simp only [Act.put, List.setIfInBounds_toArray, List.set_cons_zero, List.set_cons_succ]
      refine wpAnyH_take (i := 7) (oi := ⟨some 34, _, _, _, _, _⟩) (v := ?vb7) rfl (by kernel_rfl) (by kernel_rfl) (by kernel_rfl) (fun _ _ _ h => h) (Or.inl ⟨by rfl, ?hyb7⟩) (by assumption) ?restb7
      case hyb7 => (intro w hSw; (try dsimp only at hSw); go_simp; try with_reducible rfl)
      try simp only [Act.put, List.setIfInBounds_toArray, List.set_cons_zero, List.set_cons_succ]
      refine wpAnyH_take (i := 8) (oi := ⟨some 35, _, _, _, _, _⟩) (v := ?vb8) rfl (by kernel_rfl) (by kernel_rfl) (by kernel_rfl) (fun _ _ _ h => h) (Or.inl ⟨by rfl, ?hyb8⟩) (by assumption) ?restb8
      case hyb8 => (intro w hSw; (try dsimp only at hSw); go_simp; try with_reducible rfl)
      try simp only [Act.put, List.setIfInBounds_toArray, List.set_cons_zero, List.set_cons_succ]
      refine wpAnyH_take (i := 9) (oi := ⟨some 36, _, _, _, _, _⟩) (v := ?vb9) rfl (by kernel_rfl) (by kernel_rfl) (by kernel_rfl) (fun _ _ _ h => h) (Or.inl ⟨by rfl, ?hyb9⟩) (by assumption) ?restb9
      case hyb9 => (intro w hSw; (try dsimp only at hSw); go_simp; try with_reducible rfl)
      try simp only [Act.put, List.setIfInBounds_toArray, List.set_cons_zero, List.set_cons_succ]
      refine wpAnyH_take (i := 12) (oi := ⟨some 39, _, _, _, _, _⟩) (v := ?vb12) rfl (by kernel_rfl) (by kernel_rfl) (by kernel_rfl) (fun _ _ _ h => h) (Or.inl ⟨by rfl, ?hyb12⟩) (by assumption) ?restb12
      case hyb12 => (intro w hSw; (try dsimp only at hSw); go_simp; try with_reducible rfl)
      try simp only [Act.put, List.setIfInBounds_toArray, List.set_cons_zero, List.set_cons_succ]
      refine wpAnyH_ready (rs := [10]) (by kernel_rfl) (by simp) ?_
      refine AllReadyH.cons (o := ⟨some 37, _, _, _, _, _⟩) rfl (fun K hK => ?_) AllReadyH.nil
      go_simp
      refine (set_Join (.agg #[.slice a9 n9 c9]) (.agg #[.slice a8 n8 c8]) U B _ (U6.out.below hBc) (S6.out.below hBc) (by omega)).mono ?_
      rintro e w' ⟨r2, rfl, hr2, hBx⟩
      have hBc := below_step hBc hBx
      rw [eT.out] at hr2
      go_wp2_with fail
      refine hK.out _ _ ?_ (fun hHeldX => ?_)
      · exact ⟨(hBc.cell (p := ⟨w3.heap.size, 0, none⟩) pA).trans cA, (hBc.cell (p := ⟨w3.heap.size + 1, 0, none⟩) pB).trans cB, (hBc.cell (p := ⟨w5.heap.size, 0, none⟩) pU).trans cU⟩
      clear hK K hHeld
      rename _ => hHeld
      try simp only [Act.put, List.setIfInBounds_toArray, List.set_cons_zero, List.set_cons_succ]
      refine wpAnyH_ready (rs := [11]) (by kernel_rfl) (by simp) ?_
      refine AllReadyH.cons (o := ⟨some 38, _, _, _, _, _⟩) rfl (fun K hK => ?_) AllReadyH.nil
      go_simp
      refine (law_list r2 U _ hr2 (by omega)).mono ?_
      rintro e w' ⟨l3, rfl, hl3, hBx⟩
      have hBc := below_step hBc hBx
      go_wp2_with fail
      refine hK.out _ _ ?_ (fun hHeldX => ?_)
      · exact ⟨(hBc.cell (p := ⟨w3.heap.size, 0, none⟩) pA).trans cA, (hBc.cell (p := ⟨w3.heap.size + 1, 0, none⟩) pB).trans cB, (hBc.cell (p := ⟨w5.heap.size, 0, none⟩) pU).trans cU⟩
      clear hK K hHeld
      rename _ => hHeld
      try simp only [Act.put, List.setIfInBounds_toArray, List.set_cons_zero, List.set_cons_succ]
      refine wpAnyH_ready (rs := [13]) (by kernel_rfl) (by simp) ?_
      refine AllReadyH.cons (o := ⟨some 40, _, _, _, _, _⟩) rfl (fun K hK => ?_) AllReadyH.nil
      go_simp
      refine (law_list (.agg #[.slice a9 n9 c9]) U _ (U6.out.below hBc) (by omega)).mono ?_
      rintro e w' ⟨l4, rfl, hl4, hBx⟩
      have hBc := below_step hBc hBx
      have hl3 := SliceK.below hl3 hBx
      go_wp2_with fail
      refine hK.out _ _ ?_ (fun hHeldX => ?_)
      · exact ⟨(hBc.cell (p := ⟨w3.heap.size, 0, none⟩) pA).trans cA, (hBc.cell (p := ⟨w3.heap.size + 1, 0, none⟩) pB).trans cB, (hBc.cell (p := ⟨w5.heap.size, 0, none⟩) pU).trans cU⟩
      clear hK K hHeld
      rename _ => hHeld
      try simp only [Act.put, List.setIfInBounds_toArray, List.set_cons_zero, List.set_cons_succ]
      refine wpAnyH_ready (rs := [14]) (by kernel_rfl) (by simp) ?_
      refine AllReadyH.cons (o := ⟨some 41, _, _, _, _, _⟩) rfl (fun K hK => ?_) AllReadyH.nil
      go_simp
      refine (ints_same l3 l4 U U _ hl3 hl4 (by omega) rfl).mono ?_
      rintro e w' ⟨rfl, hBx⟩
      have hBc := below_step hBc hBx
      clear hl3 hl4 hr2
      go_wp2_with fail
      refine hK.out _ _ ?_ (fun hHeldX => ?_)
      · exact ⟨(hBc.cell (p := ⟨w3.heap.size, 0, none⟩) pA).trans cA, (hBc.cell (p := ⟨w3.heap.size + 1, 0, none⟩) pB).trans cB, (hBc.cell (p := ⟨w5.heap.size, 0, none⟩) pU).trans cU⟩
      clear hK K hHeld
      rename _ => hHeld
      try simp only [Act.put, List.setIfInBounds_toArray, List.set_cons_zero, List.set_cons_succ]
      refine wpAnyH_take (i := 15) (oi := ⟨some 42, _, _, _, _, _⟩) (v := ?vb15) rfl (by kernel_rfl) (by kernel_rfl) (by kernel_rfl) (fun _ _ _ h => h) (Or.inl ⟨by rfl, ?hyb15⟩) (by assumption) ?restb15
      case hyb15 => (intro w hSw; (try dsimp only at hSw); go_simp; try with_reducible rfl)
      try simp only [Act.put, List.setIfInBounds_toArray, List.set_cons_zero, List.set_cons_succ]
      refine wpAnyH_take (i := 16) (oi := ⟨some 43, _, _, _, _, _⟩) (v := ?vb16) rfl (by kernel_rfl) (by kernel_rfl) (by kernel_rfl) (fun _ _ _ h => h) (Or.inl ⟨by rfl, ?hyb16⟩) (by assumption) ?restb16
      case hyb16 => (intro w hSw; (try dsimp only at hSw); go_simp; try with_reducible rfl)
      try simp only [Act.put, List.setIfInBounds_toArray, List.set_cons_zero, List.set_cons_succ]
      refine wpAnyH_take (i := 17) (oi := ⟨some 44, _, _, _, _, _⟩) (v := ?vb17) rfl (by kernel_rfl) (by kernel_rfl) (by kernel_rfl) (fun _ _ _ h => h) (Or.inl ⟨by rfl, ?hyb17⟩) (by assumption) ?restb17
      case hyb17 => (intro w hSw; (try dsimp only at hSw); go_simp; try with_reducible rfl)
      try simp only [Act.put, List.setIfInBounds_toArray, List.set_cons_zero, List.set_cons_succ]
      refine wpAnyH_take (i := 18) (oi := ⟨some 45, _, _, _, _, _⟩) (v := ?vb18) rfl (by kernel_rfl) (by kernel_rfl) (by kernel_rfl) (fun _ _ _ h => h) (Or.inl ⟨by rfl, ?hyb18⟩) (by assumption) ?restb18
      case hyb18 => (intro w hSw; (try dsimp only at hSw); go_simp; try with_reducible rfl)
      try simp only [Act.put, List.setIfInBounds_toArray, List.set_cons_zero, List.set_cons_succ]
      refine wpAnyH_take (i := 20) (oi := ⟨some 47, _, _, _, _, _⟩) (v := ?vb20) rfl (by kernel_rfl) (by kernel_rfl) (by kernel_rfl) (fun _ _ _ h => h) (Or.inl ⟨by rfl, ?hyb20⟩) (by assumption) ?restb20
      case hyb20 => (intro w hSw; (try dsimp only at hSw); go_simp; try with_reducible rfl)
      try simp only [Act.put, List.setIfInBounds_toArray, List.set_cons_zero, List.set_cons_succ]
      refine wpAnyH_take (i := 21) (oi := ⟨some 48, _, _, _, _, _⟩) (v := ?vb21) rfl (by kernel_rfl) (by kernel_rfl) (by kernel_rfl) (fun _ _ _ h => h) (Or.inl ⟨by rfl, ?hyb21⟩) (by assumption) ?restb21
      case hyb21 => (intro w hSw; (try dsimp only at hSw); go_simp; try with_reducible rfl)
      try simp only [Act.put, List.setIfInBounds_toArray, List.set_cons_zero, List.set_cons_succ]
      refine wpAnyH_ready (rs := [19]) (by kernel_rfl) (by simp) ?_
      refine AllReadyH.cons (o := ⟨some 46, _, _, _, _, _⟩) rfl (fun K hK => ?_) AllReadyH.nil
      go_simp
      refine (has_yes (.agg #[.slice a9 n9 c9]) U x _ (U6.out.below hBc) (by omega) yU).mono ?_
      rintro e w' ⟨rfl, hBx⟩
      have hBc := below_step hBc hBx
      go_wp2_with fail
      refine hK.out _ _ ?_ (fun hHeldX => ?_)
      · exact ⟨(hBc.cell (p := ⟨w3.heap.size, 0, none⟩) pA).trans cA, (hBc.cell (p := ⟨w3.heap.size + 1, 0, none⟩) pB).trans cB, (hBc.cell (p := ⟨w5.heap.size, 0, none⟩) pU).trans cU⟩
      clear hK K hHeld
      rename _ => hHeld
      try simp only [Act.put, List.setIfInBounds_toArray, List.set_cons_zero, List.set_cons_succ]
      refine wpAnyH_ready (rs := [22]) (by kernel_rfl) (by simp) ?_
      refine AllReadyH.cons (o := ⟨some 49, _, _, _, _, _⟩) rfl (fun K hK => ?_) AllReadyH.nil
      go_simp
      refine (has_no (.agg #[.slice a7 n7 c7]) A x _ (R6.out.below hBc) (by omega) nA).mono ?_
      rintro e w' ⟨rfl, hBx⟩
      have hBc := below_step hBc hBx
      go_wp2_with fail
      refine hK.out _ _ ?_ (fun hHeldX => ?_)
      · exact ⟨(hBc.cell (p := ⟨w3.heap.size, 0, none⟩) pA).trans cA, (hBc.cell (p := ⟨w3.heap.size + 1, 0, none⟩) pB).trans cB, (hBc.cell (p := ⟨w5.heap.size, 0, none⟩) pU).trans cU⟩
      clear hK K hHeld
      rename _ => hHeld
      try simp only [Act.put, List.setIfInBounds_toArray, List.set_cons_zero, List.set_cons_succ]
      refine wpAnyH_take (i := 23) (oi := ⟨some 50, _, _, _, _, _⟩) (v := ?vb23) rfl (by kernel_rfl) (by kernel_rfl) (by kernel_rfl) (fun _ _ _ h => h) (Or.inl ⟨by rfl, ?hyb23⟩) (by assumption) ?restb23
      case hyb23 => (intro w hSw; (try dsimp only at hSw); go_simp; try with_reducible rfl)
      try simp only [Act.put, List.setIfInBounds_toArray, List.set_cons_zero, List.set_cons_succ]
      refine wpAnyH_take (i := 24) (oi := ⟨some 51, _, _, _, _, _⟩) (v := ?vb24) rfl (by kernel_rfl) (by kernel_rfl) (by kernel_rfl) (fun _ _ _ h => h) (Or.inl ⟨by rfl, ?hyb24⟩) (by assumption) ?restb24
      case hyb24 => (intro w hSw; (try dsimp only at hSw); go_simp; try with_reducible rfl)
      try simp only [Act.put, List.setIfInBounds_toArray, List.set_cons_zero, List.set_cons_succ]
      refine wpAnyH_take (i := 25) (oi := ⟨some 52, _, _, _, _, _⟩) (v := ?vb25) rfl (by kernel_rfl) (by kernel_rfl) (by kernel_rfl) (fun _ _ _ h => h) (Or.inl ⟨by rfl, ?hyb25⟩) (by assumption) ?restb25
      case hyb25 => (intro w hSw; (try dsimp only at hSw); go_simp; try with_reducible rfl)
      try simp only [Act.put, List.setIfInBounds_toArray, List.set_cons_zero, List.set_cons_succ]
      refine wpAnyH_ready (rs := [26]) (by kernel_rfl) (by simp) ?_
      refine AllReadyH.cons (o := ⟨some 53, _, _, _, _, _⟩) rfl (fun K hK => ?_) AllReadyH.nil
      go_simp
      refine (has_yes (.agg #[.slice a8 n8 c8]) B x _ (S6.out.below hBc) (by omega) yB).mono ?_
      rintro e w' ⟨rfl, hBx⟩
      have hBc := below_step hBc hBx
      go_wp2_with fail
      refine hK.out _ _ ?_ (fun hHeldX => ?_)
      · exact ⟨(hBc.cell (p := ⟨w3.heap.size, 0, none⟩) pA).trans cA, (hBc.cell (p := ⟨w3.heap.size + 1, 0, none⟩) pB).trans cB, (hBc.cell (p := ⟨w5.heap.size, 0, none⟩) pU).trans cU⟩
      clear hK K hHeld
      rename _ => hHeld
      try simp only [Act.put, List.setIfInBounds_toArray, List.set_cons_zero, List.set_cons_succ]
      refine wpAnyH_take (i := 27) (oi := ⟨some 54, _, _, _, _, _⟩) (v := ?vb27) rfl (by kernel_rfl) (by kernel_rfl) (by kernel_rfl) (fun _ _ _ h => h) (Or.inl ⟨by rfl, ?hyb27⟩) (by assumption) ?restb27
      case hyb27 => (intro w hSw; (try dsimp only at hSw); go_simp; try with_reducible rfl)
      try simp only [Act.put, List.setIfInBounds_toArray, List.set_cons_zero, List.set_cons_succ]
      refine wpAnyH_take (i := 28) (oi := ⟨some 55, _, _, _, _, _⟩) (v := ?vb28) rfl (by kernel_rfl) (by kernel_rfl) (by kernel_rfl) (fun _ _ _ h => h) (Or.inl ⟨by rfl, ?hyb28⟩) (by assumption) ?restb28
      case hyb28 => (intro w hSw; (try dsimp only at hSw); go_simp; try with_reducible rfl)
      try simp only [Act.put, List.setIfInBounds_toArray, List.set_cons_zero, List.set_cons_succ]
      refine wpAnyH_take (i := 29) (oi := ⟨some 56, _, _, _, _, _⟩) (v := ?vb29) rfl (by kernel_rfl) (by kernel_rfl) (by kernel_rfl) (fun _ _ _ h => h) (Or.inl ⟨by rfl, ?hyb29⟩) (by assumption) ?restb29
      case hyb29 => (intro w hSw; (try dsimp only at hSw); go_simp; try with_reducible rfl)
      try simp only [Act.put, List.setIfInBounds_toArray, List.set_cons_zero, List.set_cons_succ]
      refine wpAnyH_take (i := 30) (oi := ⟨some 57, _, _, _, _, _⟩) (v := ?vb30) rfl (by kernel_rfl) (by kernel_rfl) (by kernel_rfl) (fun _ _ _ h => h) (Or.inl ⟨by rfl, ?hyb30⟩) (by assumption) ?restb30
      case hyb30 => (intro w hSw; (try dsimp only at hSw); go_simp; try with_reducible rfl)
      try simp only [Act.put, List.setIfInBounds_toArray, List.set_cons_zero, List.set_cons_succ]
      refine wpAnyH_take (i := 31) (oi := ⟨some 58, _, _, _, _, _⟩) (v := ?vb31) rfl (by kernel_rfl) (by kernel_rfl) (by kernel_rfl) (fun _ _ _ h => h) (Or.inl ⟨by rfl, ?hyb31⟩) (by assumption) ?restb31
      case hyb31 => (intro w hSw; (try dsimp only at hSw); go_simp; try with_reducible rfl)
      try simp only [Act.put, List.setIfInBounds_toArray, List.set_cons_zero, List.set_cons_succ]
      refine wpAnyH_take (i := 33) (oi := ⟨some 60, _, _, _, _, _⟩) (v := ?vb33) rfl (by kernel_rfl) (by kernel_rfl) (by kernel_rfl) (fun _ _ _ h => h) (Or.inl ⟨by rfl, ?hyb33⟩) (by assumption) ?restb33
      case hyb33 => (intro w hSw; (try dsimp only at hSw); go_simp; try with_reducible rfl)
      try simp only [Act.put, List.setIfInBounds_toArray, List.set_cons_zero, List.set_cons_succ]
      refine wpAnyH_take (i := 35) (oi := ⟨some 62, _, _, _, _, _⟩) (v := ?vb35) rfl (by kernel_rfl) (by kernel_rfl) (by kernel_rfl) (fun _ _ _ h => h) (Or.inl ⟨by rfl, ?hyb35⟩) (by assumption) ?restb35
      case hyb35 => (intro w hSw; (try dsimp only at hSw); go_simp; try with_reducible rfl)
      try simp only [Act.put, List.setIfInBounds_toArray, List.set_cons_zero, List.set_cons_succ]
      refine wpAnyH_ready (rs := [32]) (by kernel_rfl) (by simp) ?_
      refine AllReadyH.cons (o := ⟨some 59, _, _, _, _, _⟩) rfl (fun K hK => ?_) AllReadyH.nil
      go_simp
      refine (set_Len (.agg #[.slice a9 n9 c9]) U _ (U6.out.below hBc)).mono ?_
      rintro e w' ⟨rfl, hBx⟩
      have hBc := below_step hBc hBx
      go_wp2_with fail
      refine hK.out _ _ ?_ (fun hHeldX => ?_)
      · exact ⟨(hBc.cell (p := ⟨w3.heap.size, 0, none⟩) pA).trans cA, (hBc.cell (p := ⟨w3.heap.size + 1, 0, none⟩) pB).trans cB, (hBc.cell (p := ⟨w5.heap.size, 0, none⟩) pU).trans cU⟩
      clear hK K hHeld
      rename _ => hHeld
      try simp only [Act.put, List.setIfInBounds_toArray, List.set_cons_zero, List.set_cons_succ]
      refine wpAnyH_ready (rs := [34]) (by kernel_rfl) (by simp) ?_
      refine AllReadyH.cons (o := ⟨some 61, _, _, _, _, _⟩) rfl (fun K hK => ?_) AllReadyH.nil
      go_simp
      refine (set_Len (.agg #[.slice a7 n7 c7]) A _ (R6.out.below hBc)).mono ?_
      rintro e w' ⟨rfl, hBx⟩
      have hBc := below_step hBc hBx
      go_wp2_with fail
      refine hK.out _ _ ?_ (fun hHeldX => ?_)
      · exact ⟨(hBc.cell (p := ⟨w3.heap.size, 0, none⟩) pA).trans cA, (hBc.cell (p := ⟨w3.heap.size + 1, 0, none⟩) pB).trans cB, (hBc.cell (p := ⟨w5.heap.size, 0, none⟩) pU).trans cU⟩
      clear hK K hHeld
      rename _ => hHeld
      try simp only [Act.put, List.setIfInBounds_toArray, List.set_cons_zero, List.set_cons_succ]
      refine wpAnyH_ready (rs := [36]) (by kernel_rfl) (by simp) ?_
      refine AllReadyH.cons (o := ⟨some 63, _, _, _, _, _⟩) rfl (fun K hK => ?_) AllReadyH.nil
      go_simp
      refine (set_Len (.agg #[.slice a8 n8 c8]) B _ (S6.out.below hBc)).mono ?_
      rintro e w' ⟨rfl, hBx⟩
      have hBc := below_step hBc hBx
      go_wp2_with fail
      refine hK.out _ _ ?_ (fun hHeldX => ?_)
      · exact ⟨(hBc.cell (p := ⟨w3.heap.size, 0, none⟩) pA).trans cA, (hBc.cell (p := ⟨w3.heap.size + 1, 0, none⟩) pB).trans cB, (hBc.cell (p := ⟨w5.heap.size, 0, none⟩) pU).trans cU⟩
      clear hK K hHeld
      rename _ => hHeld
      try simp only [Act.put, List.setIfInBounds_toArray, List.set_cons_zero, List.set_cons_succ]
      refine wpAnyH_take (i := 37) (oi := ⟨some 64, _, _, _, _, _⟩) (v := ?vb37) rfl (by kernel_rfl) (by kernel_rfl) (by kernel_rfl) (fun _ _ _ h => h) (Or.inl ⟨by rfl, ?hyb37⟩) (by assumption) ?restb37
      case hyb37 => (intro w hSw; (try dsimp only at hSw); go_simp; try with_reducible rfl)
      try simp only [Act.put, List.setIfInBounds_toArray, List.set_cons_zero, List.set_cons_succ]
      refine wpAnyH_take (i := 38) (oi := ⟨some 65, _, _, _, _, _⟩) (v := ?vb38) rfl (by kernel_rfl) (by kernel_rfl) (by kernel_rfl) (fun _ _ _ h => h) (Or.inl ⟨by rfl, ?hyb38⟩) (by assumption) ?restb38
      case hyb38 => (intro w hSw; (try dsimp only at hSw); go_simp; try with_reducible rfl)
      try simp only [Act.put, List.setIfInBounds_toArray, List.set_cons_zero, List.set_cons_succ]
      refine wpAnyH_take (i := 39) (oi := ⟨some 66, _, _, _, _, _⟩) (v := ?vb39) rfl (by kernel_rfl) (by kernel_rfl) (by kernel_rfl) (fun _ _ _ h => h) (Or.inl ⟨by rfl, ?hyb39⟩) (by assumption) ?restb39
      case hyb39 => (intro w hSw; (try dsimp only at hSw); go_simp; try with_reducible rfl)
      try simp only [Act.put, List.setIfInBounds_toArray, List.set_cons_zero, List.set_cons_succ]
      refine wpAnyH_take (i := 40) (oi := ⟨some 67, _, _, _, _, _⟩) (v := ?vb40) rfl (by kernel_rfl) (by kernel_rfl) (by kernel_rfl) (fun _ _ _ h => h) (Or.inl ⟨by rfl, ?hyb40⟩) (by assumption) ?restb40
      case hyb40 => (intro w hSw; (try dsimp only at hSw); go_simp; try with_reducible rfl)
      try simp only [Act.put, List.setIfInBounds_toArray, List.set_cons_zero, List.set_cons_succ]
      refine wpAnyH_take (i := 41) (oi := ⟨some 68, _, _, _, _, _⟩) (v := ?vb41) rfl (by kernel_rfl) (by kernel_rfl) (by kernel_rfl) (fun _ _ _ h => h) (Or.inl ⟨by rfl, ?hyb41⟩) (by assumption) ?restb41
      case hyb41 => (intro w hSw; (try dsimp only at hSw); go_simp; try with_reducible rfl)
      try simp only [Act.put, List.setIfInBounds_toArray, List.set_cons_zero, List.set_cons_succ]
      refine wpAnyH_take (i := 43) (oi := ⟨some 70, _, _, _, _, _⟩) (v := ?vb43) rfl (by kernel_rfl) (by kernel_rfl) (by kernel_rfl) (fun _ _ _ h => h) (Or.inl ⟨by rfl, ?hyb43⟩) (by assumption) ?restb43
      case hyb43 => (intro w hSw; (try dsimp only at hSw); go_simp; try with_reducible rfl)
      try simp only [Act.put, List.setIfInBounds_toArray, List.set_cons_zero, List.set_cons_succ]
      refine wpAnyH_take (i := 45) (oi := ⟨some 72, _, _, _, _, _⟩) (v := ?vb45) rfl (by kernel_rfl) (by kernel_rfl) (by kernel_rfl) (fun _ _ _ h => h) (Or.inl ⟨by rfl, ?hyb45⟩) (by assumption) ?restb45
      case hyb45 => (intro w hSw; (try dsimp only at hSw); go_simp; try with_reducible rfl)
      try simp only [Act.put, List.setIfInBounds_toArray, List.set_cons_zero, List.set_cons_succ]
      refine wpAnyH_ready (rs := [42]) (by kernel_rfl) (by simp) ?_
      refine AllReadyH.cons (o := ⟨some 69, _, _, _, _, _⟩) rfl (fun K hK => ?_) AllReadyH.nil
      go_simp
      refine (set_Len (.agg #[.slice a9 n9 c9]) U _ (U6.out.below hBc)).mono ?_
      rintro e w' ⟨rfl, hBx⟩
      have hBc := below_step hBc hBx
      go_wp2_with fail
      refine hK.out _ _ ?_ (fun hHeldX => ?_)
      · exact ⟨(hBc.cell (p := ⟨w3.heap.size, 0, none⟩) pA).trans cA, (hBc.cell (p := ⟨w3.heap.size + 1, 0, none⟩) pB).trans cB, (hBc.cell (p := ⟨w5.heap.size, 0, none⟩) pU).trans cU⟩
      clear hK K hHeld
      rename _ => hHeld
      try simp only [Act.put, List.setIfInBounds_toArray, List.set_cons_zero, List.set_cons_succ]
      refine wpAnyH_ready (rs := [44]) (by kernel_rfl) (by simp) ?_
      refine AllReadyH.cons (o := ⟨some 71, _, _, _, _, _⟩) rfl (fun K hK => ?_) AllReadyH.nil
      go_simp
      refine (set_Len (.agg #[.slice a7 n7 c7]) A _ (R6.out.below hBc)).mono ?_
      rintro e w' ⟨rfl, hBx⟩
      have hBc := below_step hBc hBx
      go_wp2_with fail
      refine hK.out _ _ ?_ (fun hHeldX => ?_)
      · exact ⟨(hBc.cell (p := ⟨w3.heap.size, 0, none⟩) pA).trans cA, (hBc.cell (p := ⟨w3.heap.size + 1, 0, none⟩) pB).trans cB, (hBc.cell (p := ⟨w5.heap.size, 0, none⟩) pU).trans cU⟩
      clear hK K hHeld
      rename _ => hHeld
      try simp only [Act.put, List.setIfInBounds_toArray, List.set_cons_zero, List.set_cons_succ]
      refine wpAnyH_ready (rs := [46]) (by kernel_rfl) (by simp) ?_
      refine AllReadyH.cons (o := ⟨some 73, _, _, _, _, _⟩) rfl (fun K hK => ?_) AllReadyH.nil
      go_simp
      refine (set_Len (.agg #[.slice a8 n8 c8]) B _ (S6.out.below hBc)).mono ?_
      rintro e w' ⟨rfl, hBx⟩
      have hBc := below_step hBc hBx
      go_wp2_with fail
      refine hK.out _ _ ?_ (fun hHeldX => ?_)
      · exact ⟨(hBc.cell (p := ⟨w3.heap.size, 0, none⟩) pA).trans cA, (hBc.cell (p := ⟨w3.heap.size + 1, 0, none⟩) pB).trans cB, (hBc.cell (p := ⟨w5.heap.size, 0, none⟩) pU).trans cU⟩
      clear hK K hHeld
      rename _ => hHeld
      try simp only [Act.put, List.setIfInBounds_toArray, List.set_cons_zero, List.set_cons_succ]
      refine wpAnyH_take (i := 47) (oi := ⟨some 74, _, _, _, _, _⟩) (v := ?vb47) rfl (by kernel_rfl) (by kernel_rfl) (by kernel_rfl) (fun _ _ _ h => h) (Or.inl ⟨by rfl, ?hyb47⟩) (by assumption) ?restb47
      case hyb47 => (intro w hSw; (try dsimp only at hSw); go_simp; try with_reducible rfl)
      try simp only [Act.put, List.setIfInBounds_toArray, List.set_cons_zero, List.set_cons_succ]
      refine wpAnyH_take (i := 48) (oi := ⟨some 75, _, _, _, _, _⟩) (v := ?vb48) rfl (by kernel_rfl) (by kernel_rfl) (by kernel_rfl) (fun _ _ _ h => h) (Or.inl ⟨by rfl, ?hyb48⟩) (by assumption) ?restb48
      case hyb48 => (intro w hSw; (try dsimp only at hSw); go_simp; try with_reducible rfl)
      try simp only [Act.put, List.setIfInBounds_toArray, List.set_cons_zero, List.set_cons_succ]
      refine wpAnyH_take (i := 49) (oi := ⟨some 76, _, _, _, _, _⟩) (v := ?vb49) rfl (by kernel_rfl) (by kernel_rfl) (by kernel_rfl) (fun _ _ _ h => h) (Or.inl ⟨by rfl, ?hyb49⟩) (by assumption) ?restb49
      case hyb49 => (intro w hSw; (try dsimp only at hSw); go_simp; try with_reducible rfl)
      try simp only [Act.put, List.setIfInBounds_toArray, List.set_cons_zero, List.set_cons_succ]
      refine wpAnyH_take (i := 50) (oi := ⟨some 6, _, _, _, _, _⟩) (v := ?vb50) rfl (by kernel_rfl) (by kernel_rfl) (by kernel_rfl) (fun _ _ _ h => h) (Or.inl ⟨by rfl, ?hyb50⟩) (by assumption) ?restb50
      case hyb50 => (intro w hSw; (try dsimp only at hSw); go_simp; try with_reducible rfl)
      try simp only [Act.put, List.setIfInBounds_toArray, List.set_cons_zero, List.set_cons_succ]
      refine wpAnyH_done (by kernel_rfl) ?_ _
      refine NoPanic.normal ?_
      go_wp2
      go_ret
      refine ⟨?_, below_step B6.out hBc⟩
      show Ending.returned (.bool (decide (max (A.length : Int) (B.length : Int) ≤ (U.length : Int)))) = _
      rw [decide_eq_true (Int.max_le.2 ⟨q3, q4⟩)]
    · refine wp_region_noPanic ?_
      refine wp_region_held_drew (S := (fun w' => w'.cell? ⟨w3.heap.size, 0, none⟩ = some (.slice a7 n7 c7) ∧ w'.cell? ⟨w3.heap.size + 1, 0, none⟩ = some (.slice a8 n8 c8) ∧ w'.cell? ⟨w5.heap.size, 0, none⟩ = some (.slice a9 n9 c9))) (by kernel_rfl) ?_ (fun hHeld => ?_)
      · exact ⟨(hBc.cell (p := ⟨w3.heap.size, 0, none⟩) pA).trans cA, (hBc.cell (p := ⟨w3.heap.size + 1, 0, none⟩) pB).trans cB, (hBc.cell (p := ⟨w5.heap.size, 0, none⟩) pU).trans cU⟩
      refine wpAnyH_take (i := 0) (oi := ⟨some 27, _, _, _, _, _⟩) (v := ?vc0) rfl (by kernel_rfl) (by kernel_rfl) (by kernel_rfl) (fun _ _ _ h => h) (Or.inl ⟨by rfl, ?hyc0⟩) (by assumption) ?restc0
      case hyc0 => (intro w hSw; (try dsimp only at hSw); go_simp; try with_reducible rfl)
      try simp only [Act.put, List.setIfInBounds_toArray, List.set_cons_zero, List.set_cons_succ]
      refine wpAnyH_take (i := 2) (oi := ⟨some 29, _, _, _, _, _⟩) (v := ?vc2) rfl (by kernel_rfl) (by kernel_rfl) (by kernel_rfl) (fun _ _ _ h => h) (Or.inl ⟨by rfl, ?hyc2⟩) (by assumption) ?restc2
      case hyc2 => (intro w hSw; (try dsimp only at hSw); go_simp; try with_reducible rfl)
      try simp only [Act.put, List.setIfInBounds_toArray, List.set_cons_zero, List.set_cons_succ]
      refine wpAnyH_take (i := 3) (oi := ⟨some 30, _, _, _, _, _⟩) (v := ?vc3) rfl (by kernel_rfl) (by kernel_rfl) (by kernel_rfl) (fun _ _ _ h => h) (Or.inl ⟨by rfl, ?hyc3⟩) (by assumption) ?restc3
      case hyc3 => (intro w hSw; (try dsimp only at hSw); go_simp; try with_reducible rfl)
      try simp only [Act.put, List.setIfInBounds_toArray, List.set_cons_zero, List.set_cons_succ]
      refine wpAnyH_ready (rs := [1]) (by kernel_rfl) (by simp) ?_
      refine AllReadyH.cons (o := ⟨some 28, _, _, _, _, _⟩) rfl (fun K hK => ?_) AllReadyH.nil
      go_simp
      refine (law_list (.agg #[.slice a9 n9 c9]) U _ (U6.out.below hBc) (by omega)).mono ?_
      rintro e w' ⟨l1, rfl, hl1, hBx⟩
      have hBc := below_step hBc hBx
      go_wp2_with fail
      refine hK.out _ _ ?_ (fun hHeldX => ?_)
      · exact ⟨(hBc.cell (p := ⟨w3.heap.size, 0, none⟩) pA).trans cA, (hBc.cell (p := ⟨w3.heap.size + 1, 0, none⟩) pB).trans cB, (hBc.cell (p := ⟨w5.heap.size, 0, none⟩) pU).trans cU⟩
      clear hK K hHeld
      rename _ => hHeld
      try simp only [Act.put, List.setIfInBounds_toArray, List.set_cons_zero, List.set_cons_succ]
      refine wpAnyH_ready (rs := [4]) (by kernel_rfl) (by simp) ?_
      refine AllReadyH.cons (o := ⟨some 31, _, _, _, _, _⟩) rfl (fun K hK => ?_) AllReadyH.nil
      go_simp
      refine (set_Join (.agg #[.slice a8 n8 c8]) (.agg #[.slice a7 n7 c7]) B A _ (S6.out.below hBc) (R6.out.below hBc) (by omega)).mono ?_
      rintro e w' ⟨r1, rfl, hr1, hBx⟩
      have hBc := below_step hBc hBx
      rw [eC.out] at hr1
      have hl1 := SliceK.below hl1 hBx
      go_wp2_with fail
      refine hK.out _ _ ?_ (fun hHeldX => ?_)
      · exact ⟨(hBc.cell (p := ⟨w3.heap.size, 0, none⟩) pA).trans cA, (hBc.cell (p := ⟨w3.heap.size + 1, 0, none⟩) pB).trans cB, (hBc.cell (p := ⟨w5.heap.size, 0, none⟩) pU).trans cU⟩
      clear hK K hHeld
      rename _ => hHeld
      try simp only [Act.put, List.setIfInBounds_toArray, List.set_cons_zero, List.set_cons_succ]
      refine wpAnyH_ready (rs := [5]) (by kernel_rfl) (by simp) ?_
      refine AllReadyH.cons (o := ⟨some 32, _, _, _, _, _⟩) rfl (fun K hK => ?_) AllReadyH.nil
      go_simp
      refine (law_list r1 U _ hr1 (by omega)).mono ?_
      rintro e w' ⟨l2, rfl, hl2, hBx⟩
      have hBc := below_step hBc hBx
      have hl1 := SliceK.below hl1 hBx
      go_wp2_with fail
      refine hK.out _ _ ?_ (fun hHeldX => ?_)
      · exact ⟨(hBc.cell (p := ⟨w3.heap.size, 0, none⟩) pA).trans cA, (hBc.cell (p := ⟨w3.heap.size + 1, 0, none⟩) pB).trans cB, (hBc.cell (p := ⟨w5.heap.size, 0, none⟩) pU).trans cU⟩
      clear hK K hHeld
      rename _ => hHeld
      try simp only [Act.put, List.setIfInBounds_toArray, List.set_cons_zero, List.set_cons_succ]
      refine wpAnyH_ready (rs := [6]) (by kernel_rfl) (by simp) ?_
      refine AllReadyH.cons (o := ⟨some 33, _, _, _, _, _⟩) rfl (fun K hK => ?_) AllReadyH.nil
      go_simp
      refine (ints_same l1 l2 U U _ hl1 hl2 (by omega) rfl).mono ?_
      rintro e w' ⟨rfl, hBx⟩
      have hBc := below_step hBc hBx
      clear hl1 hl2 hr1
      go_wp2_with fail
      refine hK.out _ _ ?_ (fun hHeldX => ?_)
      · exact ⟨(hBc.cell (p := ⟨w3.heap.size, 0, none⟩) pA).trans cA, (hBc.cell (p := ⟨w3.heap.size + 1, 0, none⟩) pB).trans cB, (hBc.cell (p := ⟨w5.heap.size, 0, none⟩) pU).trans cU⟩
      clear hK K hHeld
      rename _ => hHeld
      try simp only [Act.put, List.setIfInBounds_toArray, List.set_cons_zero, List.set_cons_succ]
      refine wpAnyH_take (i := 7) (oi := ⟨some 34, _, _, _, _, _⟩) (v := ?vc7) rfl (by kernel_rfl) (by kernel_rfl) (by kernel_rfl) (fun _ _ _ h => h) (Or.inl ⟨by rfl, ?hyc7⟩) (by assumption) ?restc7
      case hyc7 => (intro w hSw; (try dsimp only at hSw); go_simp; try with_reducible rfl)
      try simp only [Act.put, List.setIfInBounds_toArray, List.set_cons_zero, List.set_cons_succ]
      refine wpAnyH_take (i := 8) (oi := ⟨some 35, _, _, _, _, _⟩) (v := ?vc8) rfl (by kernel_rfl) (by kernel_rfl) (by kernel_rfl) (fun _ _ _ h => h) (Or.inl ⟨by rfl, ?hyc8⟩) (by assumption) ?restc8
      case hyc8 => (intro w hSw; (try dsimp only at hSw); go_simp; try with_reducible rfl)
      try simp only [Act.put, List.setIfInBounds_toArray, List.set_cons_zero, List.set_cons_succ]
      refine wpAnyH_take (i := 9) (oi := ⟨some 36, _, _, _, _, _⟩) (v := ?vc9) rfl (by kernel_rfl) (by kernel_rfl) (by kernel_rfl) (fun _ _ _ h => h) (Or.inl ⟨by rfl, ?hyc9⟩) (by assumption) ?restc9
      case hyc9 => (intro w hSw; (try dsimp only at hSw); go_simp; try with_reducible rfl)
      try simp only [Act.put, List.setIfInBounds_toArray, List.set_cons_zero, List.set_cons_succ]
      refine wpAnyH_take (i := 12) (oi := ⟨some 39, _, _, _, _, _⟩) (v := ?vc12) rfl (by kernel_rfl) (by kernel_rfl) (by kernel_rfl) (fun _ _ _ h => h) (Or.inl ⟨by rfl, ?hyc12⟩) (by assumption) ?restc12
      case hyc12 => (intro w hSw; (try dsimp only at hSw); go_simp; try with_reducible rfl)
      try simp only [Act.put, List.setIfInBounds_toArray, List.set_cons_zero, List.set_cons_succ]
      refine wpAnyH_ready (rs := [10]) (by kernel_rfl) (by simp) ?_
      refine AllReadyH.cons (o := ⟨some 37, _, _, _, _, _⟩) rfl (fun K hK => ?_) AllReadyH.nil
      go_simp
      refine (set_Join (.agg #[.slice a9 n9 c9]) (.agg #[.slice a8 n8 c8]) U B _ (U6.out.below hBc) (S6.out.below hBc) (by omega)).mono ?_
      rintro e w' ⟨r2, rfl, hr2, hBx⟩
      have hBc := below_step hBc hBx
      rw [eT.out] at hr2
      go_wp2_with fail
      refine hK.out _ _ ?_ (fun hHeldX => ?_)
      · exact ⟨(hBc.cell (p := ⟨w3.heap.size, 0, none⟩) pA).trans cA, (hBc.cell (p := ⟨w3.heap.size + 1, 0, none⟩) pB).trans cB, (hBc.cell (p := ⟨w5.heap.size, 0, none⟩) pU).trans cU⟩
      clear hK K hHeld
      rename _ => hHeld
      try simp only [Act.put, List.setIfInBounds_toArray, List.set_cons_zero, List.set_cons_succ]
      refine wpAnyH_ready (rs := [11]) (by kernel_rfl) (by simp) ?_
      refine AllReadyH.cons (o := ⟨some 38, _, _, _, _, _⟩) rfl (fun K hK => ?_) AllReadyH.nil
      go_simp
      refine (law_list r2 U _ hr2 (by omega)).mono ?_
      rintro e w' ⟨l3, rfl, hl3, hBx⟩
      have hBc := below_step hBc hBx
      go_wp2_with fail
      refine hK.out _ _ ?_ (fun hHeldX => ?_)
      · exact ⟨(hBc.cell (p := ⟨w3.heap.size, 0, none⟩) pA).trans cA, (hBc.cell (p := ⟨w3.heap.size + 1, 0, none⟩) pB).trans cB, (hBc.cell (p := ⟨w5.heap.size, 0, none⟩) pU).trans cU⟩
      clear hK K hHeld
      rename _ => hHeld
      try simp only [Act.put, List.setIfInBounds_toArray, List.set_cons_zero, List.set_cons_succ]
      refine wpAnyH_ready (rs := [13]) (by kernel_rfl) (by simp) ?_
      refine AllReadyH.cons (o := ⟨some 40, _, _, _, _, _⟩) rfl (fun K hK => ?_) AllReadyH.nil
      go_simp
      refine (law_list (.agg #[.slice a9 n9 c9]) U _ (U6.out.below hBc) (by omega)).mono ?_
      rintro e w' ⟨l4, rfl, hl4, hBx⟩
      have hBc := below_step hBc hBx
      have hl3 := SliceK.below hl3 hBx
      go_wp2_with fail
      refine hK.out _ _ ?_ (fun hHeldX => ?_)
      · exact ⟨(hBc.cell (p := ⟨w3.heap.size, 0, none⟩) pA).trans cA, (hBc.cell (p := ⟨w3.heap.size + 1, 0, none⟩) pB).trans cB, (hBc.cell (p := ⟨w5.heap.size, 0, none⟩) pU).trans cU⟩
      clear hK K hHeld
      rename _ => hHeld
      try simp only [Act.put, List.setIfInBounds_toArray, List.set_cons_zero, List.set_cons_succ]
      refine wpAnyH_ready (rs := [14]) (by kernel_rfl) (by simp) ?_
      refine AllReadyH.cons (o := ⟨some 41, _, _, _, _, _⟩) rfl (fun K hK => ?_) AllReadyH.nil
      go_simp
      refine (ints_same l3 l4 U U _ hl3 hl4 (by omega) rfl).mono ?_
      rintro e w' ⟨rfl, hBx⟩
      have hBc := below_step hBc hBx
      clear hl3 hl4 hr2
      go_wp2_with fail
      refine hK.out _ _ ?_ (fun hHeldX => ?_)
      · exact ⟨(hBc.cell (p := ⟨w3.heap.size, 0, none⟩) pA).trans cA, (hBc.cell (p := ⟨w3.heap.size + 1, 0, none⟩) pB).trans cB, (hBc.cell (p := ⟨w5.heap.size, 0, none⟩) pU).trans cU⟩
      clear hK K hHeld
      rename _ => hHeld
      try simp only [Act.put, List.setIfInBounds_toArray, List.set_cons_zero, List.set_cons_succ]
      refine wpAnyH_take (i := 15) (oi := ⟨some 42, _, _, _, _, _⟩) (v := ?vc15) rfl (by kernel_rfl) (by kernel_rfl) (by kernel_rfl) (fun _ _ _ h => h) (Or.inl ⟨by rfl, ?hyc15⟩) (by assumption) ?restc15
      case hyc15 => (intro w hSw; (try dsimp only at hSw); go_simp; try with_reducible rfl)
      try simp only [Act.put, List.setIfInBounds_toArray, List.set_cons_zero, List.set_cons_succ]
      refine wpAnyH_take (i := 16) (oi := ⟨some 43, _, _, _, _, _⟩) (v := ?vc16) rfl (by kernel_rfl) (by kernel_rfl) (by kernel_rfl) (fun _ _ _ h => h) (Or.inl ⟨by rfl, ?hyc16⟩) (by assumption) ?restc16
      case hyc16 => (intro w hSw; (try dsimp only at hSw); go_simp; try with_reducible rfl)
      try simp only [Act.put, List.setIfInBounds_toArray, List.set_cons_zero, List.set_cons_succ]
      refine wpAnyH_take (i := 17) (oi := ⟨some 44, _, _, _, _, _⟩) (v := ?vc17) rfl (by kernel_rfl) (by kernel_rfl) (by kernel_rfl) (fun _ _ _ h => h) (Or.inl ⟨by rfl, ?hyc17⟩) (by assumption) ?restc17
      case hyc17 => (intro w hSw; (try dsimp only at hSw); go_simp; try with_reducible rfl)
      try simp only [Act.put, List.setIfInBounds_toArray, List.set_cons_zero, List.set_cons_succ]
      refine wpAnyH_take (i := 18) (oi := ⟨some 45, _, _, _, _, _⟩) (v := ?vc18) rfl (by kernel_rfl) (by kernel_rfl) (by kernel_rfl) (fun _ _ _ h => h) (Or.inl ⟨by rfl, ?hyc18⟩) (by assumption) ?restc18
      case hyc18 => (intro w hSw; (try dsimp only at hSw); go_simp; try with_reducible rfl)
      try simp only [Act.put, List.setIfInBounds_toArray, List.set_cons_zero, List.set_cons_succ]
      refine wpAnyH_take (i := 20) (oi := ⟨some 47, _, _, _, _, _⟩) (v := ?vc20) rfl (by kernel_rfl) (by kernel_rfl) (by kernel_rfl) (fun _ _ _ h => h) (Or.inl ⟨by rfl, ?hyc20⟩) (by assumption) ?restc20
      case hyc20 => (intro w hSw; (try dsimp only at hSw); go_simp; try with_reducible rfl)
      try simp only [Act.put, List.setIfInBounds_toArray, List.set_cons_zero, List.set_cons_succ]
      refine wpAnyH_take (i := 21) (oi := ⟨some 48, _, _, _, _, _⟩) (v := ?vc21) rfl (by kernel_rfl) (by kernel_rfl) (by kernel_rfl) (fun _ _ _ h => h) (Or.inl ⟨by rfl, ?hyc21⟩) (by assumption) ?restc21
      case hyc21 => (intro w hSw; (try dsimp only at hSw); go_simp; try with_reducible rfl)
      try simp only [Act.put, List.setIfInBounds_toArray, List.set_cons_zero, List.set_cons_succ]
      refine wpAnyH_ready (rs := [19]) (by kernel_rfl) (by simp) ?_
      refine AllReadyH.cons (o := ⟨some 46, _, _, _, _, _⟩) rfl (fun K hK => ?_) AllReadyH.nil
      go_simp
      refine (has_no (.agg #[.slice a9 n9 c9]) U x _ (U6.out.below hBc) (by omega) nU).mono ?_
      rintro e w' ⟨rfl, hBx⟩
      have hBc := below_step hBc hBx
      go_wp2_with fail
      refine hK.out _ _ ?_ (fun hHeldX => ?_)
      · exact ⟨(hBc.cell (p := ⟨w3.heap.size, 0, none⟩) pA).trans cA, (hBc.cell (p := ⟨w3.heap.size + 1, 0, none⟩) pB).trans cB, (hBc.cell (p := ⟨w5.heap.size, 0, none⟩) pU).trans cU⟩
      clear hK K hHeld
      rename _ => hHeld
      try simp only [Act.put, List.setIfInBounds_toArray, List.set_cons_zero, List.set_cons_succ]
      refine wpAnyH_ready (rs := [22]) (by kernel_rfl) (by simp) ?_
      refine AllReadyH.cons (o := ⟨some 49, _, _, _, _, _⟩) rfl (fun K hK => ?_) AllReadyH.nil
      go_simp
      refine (has_no (.agg #[.slice a7 n7 c7]) A x _ (R6.out.below hBc) (by omega) nA).mono ?_
      rintro e w' ⟨rfl, hBx⟩
      have hBc := below_step hBc hBx
      go_wp2_with fail
      refine hK.out _ _ ?_ (fun hHeldX => ?_)
      · exact ⟨(hBc.cell (p := ⟨w3.heap.size, 0, none⟩) pA).trans cA, (hBc.cell (p := ⟨w3.heap.size + 1, 0, none⟩) pB).trans cB, (hBc.cell (p := ⟨w5.heap.size, 0, none⟩) pU).trans cU⟩
      clear hK K hHeld
      rename _ => hHeld
      try simp only [Act.put, List.setIfInBounds_toArray, List.set_cons_zero, List.set_cons_succ]
      refine wpAnyH_take (i := 23) (oi := ⟨some 50, _, _, _, _, _⟩) (v := ?vc23) rfl (by kernel_rfl) (by kernel_rfl) (by kernel_rfl) (fun _ _ _ h => h) (Or.inl ⟨by rfl, ?hyc23⟩) (by assumption) ?restc23
      case hyc23 => (intro w hSw; (try dsimp only at hSw); go_simp; try with_reducible rfl)
      try simp only [Act.put, List.setIfInBounds_toArray, List.set_cons_zero, List.set_cons_succ]
      refine wpAnyH_take (i := 24) (oi := ⟨some 51, _, _, _, _, _⟩) (v := ?vc24) rfl (by kernel_rfl) (by kernel_rfl) (by kernel_rfl) (fun _ _ _ h => h) (Or.inl ⟨by rfl, ?hyc24⟩) (by assumption) ?restc24
      case hyc24 => (intro w hSw; (try dsimp only at hSw); go_simp; try with_reducible rfl)
      try simp only [Act.put, List.setIfInBounds_toArray, List.set_cons_zero, List.set_cons_succ]
      refine wpAnyH_take (i := 25) (oi := ⟨some 52, _, _, _, _, _⟩) (v := ?vc25) rfl (by kernel_rfl) (by kernel_rfl) (by kernel_rfl) (fun _ _ _ h => h) (Or.inl ⟨by rfl, ?hyc25⟩) (by assumption) ?restc25
      case hyc25 => (intro w hSw; (try dsimp only at hSw); go_simp; try with_reducible rfl)
      try simp only [Act.put, List.setIfInBounds_toArray, List.set_cons_zero, List.set_cons_succ]
      refine wpAnyH_ready (rs := [26]) (by kernel_rfl) (by simp) ?_
      refine AllReadyH.cons (o := ⟨some 53, _, _, _, _, _⟩) rfl (fun K hK => ?_) AllReadyH.nil
      go_simp
      refine (has_no (.agg #[.slice a8 n8 c8]) B x _ (S6.out.below hBc) (by omega) nB).mono ?_
      rintro e w' ⟨rfl, hBx⟩
      have hBc := below_step hBc hBx
      go_wp2_with fail
      refine hK.out _ _ ?_ (fun hHeldX => ?_)
      · exact ⟨(hBc.cell (p := ⟨w3.heap.size, 0, none⟩) pA).trans cA, (hBc.cell (p := ⟨w3.heap.size + 1, 0, none⟩) pB).trans cB, (hBc.cell (p := ⟨w5.heap.size, 0, none⟩) pU).trans cU⟩
      clear hK K hHeld
      rename _ => hHeld
      try simp only [Act.put, List.setIfInBounds_toArray, List.set_cons_zero, List.set_cons_succ]
      refine wpAnyH_take (i := 27) (oi := ⟨some 54, _, _, _, _, _⟩) (v := ?vc27) rfl (by kernel_rfl) (by kernel_rfl) (by kernel_rfl) (fun _ _ _ h => h) (Or.inl ⟨by rfl, ?hyc27⟩) (by assumption) ?restc27
      case hyc27 => (intro w hSw; (try dsimp only at hSw); go_simp; try with_reducible rfl)
      try simp only [Act.put, List.setIfInBounds_toArray, List.set_cons_zero, List.set_cons_succ]
      refine wpAnyH_take (i := 28) (oi := ⟨some 55, _, _, _, _, _⟩) (v := ?vc28) rfl (by kernel_rfl) (by kernel_rfl) (by kernel_rfl) (fun _ _ _ h => h) (Or.inl ⟨by rfl, ?hyc28⟩) (by assumption) ?restc28
      case hyc28 => (intro w hSw; (try dsimp only at hSw); go_simp; try with_reducible rfl)
      try simp only [Act.put, List.setIfInBounds_toArray, List.set_cons_zero, List.set_cons_succ]
      refine wpAnyH_take (i := 29) (oi := ⟨some 56, _, _, _, _, _⟩) (v := ?vc29) rfl (by kernel_rfl) (by kernel_rfl) (by kernel_rfl) (fun _ _ _ h => h) (Or.inl ⟨by rfl, ?hyc29⟩) (by assumption) ?restc29
      case hyc29 => (intro w hSw; (try dsimp only at hSw); go_simp; try with_reducible rfl)
      try simp only [Act.put, List.setIfInBounds_toArray, List.set_cons_zero, List.set_cons_succ]
      refine wpAnyH_take (i := 30) (oi := ⟨some 57, _, _, _, _, _⟩) (v := ?vc30) rfl (by kernel_rfl) (by kernel_rfl) (by kernel_rfl) (fun _ _ _ h => h) (Or.inl ⟨by rfl, ?hyc30⟩) (by assumption) ?restc30
      case hyc30 => (intro w hSw; (try dsimp only at hSw); go_simp; try with_reducible rfl)
      try simp only [Act.put, List.setIfInBounds_toArray, List.set_cons_zero, List.set_cons_succ]
      refine wpAnyH_take (i := 31) (oi := ⟨some 58, _, _, _, _, _⟩) (v := ?vc31) rfl (by kernel_rfl) (by kernel_rfl) (by kernel_rfl) (fun _ _ _ h => h) (Or.inl ⟨by rfl, ?hyc31⟩) (by assumption) ?restc31
      case hyc31 => (intro w hSw; (try dsimp only at hSw); go_simp; try with_reducible rfl)
      try simp only [Act.put, List.setIfInBounds_toArray, List.set_cons_zero, List.set_cons_succ]
      refine wpAnyH_take (i := 33) (oi := ⟨some 60, _, _, _, _, _⟩) (v := ?vc33) rfl (by kernel_rfl) (by kernel_rfl) (by kernel_rfl) (fun _ _ _ h => h) (Or.inl ⟨by rfl, ?hyc33⟩) (by assumption) ?restc33
      case hyc33 => (intro w hSw; (try dsimp only at hSw); go_simp; try with_reducible rfl)
      try simp only [Act.put, List.setIfInBounds_toArray, List.set_cons_zero, List.set_cons_succ]
      refine wpAnyH_take (i := 35) (oi := ⟨some 62, _, _, _, _, _⟩) (v := ?vc35) rfl (by kernel_rfl) (by kernel_rfl) (by kernel_rfl) (fun _ _ _ h => h) (Or.inl ⟨by rfl, ?hyc35⟩) (by assumption) ?restc35
      case hyc35 => (intro w hSw; (try dsimp only at hSw); go_simp; try with_reducible rfl)
      try simp only [Act.put, List.setIfInBounds_toArray, List.set_cons_zero, List.set_cons_succ]
      refine wpAnyH_ready (rs := [32]) (by kernel_rfl) (by simp) ?_
      refine AllReadyH.cons (o := ⟨some 59, _, _, _, _, _⟩) rfl (fun K hK => ?_) AllReadyH.nil
      go_simp
      refine (set_Len (.agg #[.slice a9 n9 c9]) U _ (U6.out.below hBc)).mono ?_
      rintro e w' ⟨rfl, hBx⟩
      have hBc := below_step hBc hBx
      go_wp2_with fail
      refine hK.out _ _ ?_ (fun hHeldX => ?_)
      · exact ⟨(hBc.cell (p := ⟨w3.heap.size, 0, none⟩) pA).trans cA, (hBc.cell (p := ⟨w3.heap.size + 1, 0, none⟩) pB).trans cB, (hBc.cell (p := ⟨w5.heap.size, 0, none⟩) pU).trans cU⟩
      clear hK K hHeld
      rename _ => hHeld
      try simp only [Act.put, List.setIfInBounds_toArray, List.set_cons_zero, List.set_cons_succ]
      refine wpAnyH_ready (rs := [34]) (by kernel_rfl) (by simp) ?_
      refine AllReadyH.cons (o := ⟨some 61, _, _, _, _, _⟩) rfl (fun K hK => ?_) AllReadyH.nil
      go_simp
      refine (set_Len (.agg #[.slice a7 n7 c7]) A _ (R6.out.below hBc)).mono ?_
      rintro e w' ⟨rfl, hBx⟩
      have hBc := below_step hBc hBx
      go_wp2_with fail
      refine hK.out _ _ ?_ (fun hHeldX => ?_)
      · exact ⟨(hBc.cell (p := ⟨w3.heap.size, 0, none⟩) pA).trans cA, (hBc.cell (p := ⟨w3.heap.size + 1, 0, none⟩) pB).trans cB, (hBc.cell (p := ⟨w5.heap.size, 0, none⟩) pU).trans cU⟩
      clear hK K hHeld
      rename _ => hHeld
      try simp only [Act.put, List.setIfInBounds_toArray, List.set_cons_zero, List.set_cons_succ]
      refine wpAnyH_ready (rs := [36]) (by kernel_rfl) (by simp) ?_
      refine AllReadyH.cons (o := ⟨some 63, _, _, _, _, _⟩) rfl (fun K hK => ?_) AllReadyH.nil
      go_simp
      refine (set_Len (.agg #[.slice a8 n8 c8]) B _ (S6.out.below hBc)).mono ?_
      rintro e w' ⟨rfl, hBx⟩
      have hBc := below_step hBc hBx
      go_wp2_with fail
      refine hK.out _ _ ?_ (fun hHeldX => ?_)
      · exact ⟨(hBc.cell (p := ⟨w3.heap.size, 0, none⟩) pA).trans cA, (hBc.cell (p := ⟨w3.heap.size + 1, 0, none⟩) pB).trans cB, (hBc.cell (p := ⟨w5.heap.size, 0, none⟩) pU).trans cU⟩
      clear hK K hHeld
      rename _ => hHeld
      try simp only [Act.put, List.setIfInBounds_toArray, List.set_cons_zero, List.set_cons_succ]
      refine wpAnyH_take (i := 37) (oi := ⟨some 64, _, _, _, _, _⟩) (v := ?vc37) rfl (by kernel_rfl) (by kernel_rfl) (by kernel_rfl) (fun _ _ _ h => h) (Or.inl ⟨by rfl, ?hyc37⟩) (by assumption) ?restc37
      case hyc37 => (intro w hSw; (try dsimp only at hSw); go_simp; try with_reducible rfl)
      try simp only [Act.put, List.setIfInBounds_toArray, List.set_cons_zero, List.set_cons_succ]
      refine wpAnyH_take (i := 38) (oi := ⟨some 65, _, _, _, _, _⟩) (v := ?vc38) rfl (by kernel_rfl) (by kernel_rfl) (by kernel_rfl) (fun _ _ _ h => h) (Or.inl ⟨by rfl, ?hyc38⟩) (by assumption) ?restc38
      case hyc38 => (intro w hSw; (try dsimp only at hSw); go_simp; try with_reducible rfl)
      try simp only [Act.put, List.setIfInBounds_toArray, List.set_cons_zero, List.set_cons_succ]
      refine wpAnyH_take (i := 39) (oi := ⟨some 66, _, _, _, _, _⟩) (v := ?vc39) rfl (by kernel_rfl) (by kernel_rfl) (by kernel_rfl) (fun _ _ _ h => h) (Or.inl ⟨by rfl, ?hyc39⟩) (by assumption) ?restc39
      case hyc39 => (intro w hSw; (try dsimp only at hSw); go_simp; try with_reducible rfl)
      try simp only [Act.put, List.setIfInBounds_toArray, List.set_cons_zero, List.set_cons_succ]
      refine wpAnyH_take (i := 40) (oi := ⟨some 67, _, _, _, _, _⟩) (v := ?vc40) rfl (by kernel_rfl) (by kernel_rfl) (by kernel_rfl) (fun _ _ _ h => h) (Or.inl ⟨by rfl, ?hyc40⟩) (by assumption) ?restc40
      case hyc40 => (intro w hSw; (try dsimp only at hSw); go_simp; try with_reducible rfl)
      try simp only [Act.put, List.setIfInBounds_toArray, List.set_cons_zero, List.set_cons_succ]
      refine wpAnyH_take (i := 41) (oi := ⟨some 68, _, _, _, _, _⟩) (v := ?vc41) rfl (by kernel_rfl) (by kernel_rfl) (by kernel_rfl) (fun _ _ _ h => h) (Or.inl ⟨by rfl, ?hyc41⟩) (by assumption) ?restc41
      case hyc41 => (intro w hSw; (try dsimp only at hSw); go_simp; try with_reducible rfl)
      try simp only [Act.put, List.setIfInBounds_toArray, List.set_cons_zero, List.set_cons_succ]
      refine wpAnyH_take (i := 43) (oi := ⟨some 70, _, _, _, _, _⟩) (v := ?vc43) rfl (by kernel_rfl) (by kernel_rfl) (by kernel_rfl) (fun _ _ _ h => h) (Or.inl ⟨by rfl, ?hyc43⟩) (by assumption) ?restc43
      case hyc43 => (intro w hSw; (try dsimp only at hSw); go_simp; try with_reducible rfl)
      try simp only [Act.put, List.setIfInBounds_toArray, List.set_cons_zero, List.set_cons_succ]
      refine wpAnyH_take (i := 45) (oi := ⟨some 72, _, _, _, _, _⟩) (v := ?vc45) rfl (by kernel_rfl) (by kernel_rfl) (by kernel_rfl) (fun _ _ _ h => h) (Or.inl ⟨by rfl, ?hyc45⟩) (by assumption) ?restc45
      case hyc45 => (intro w hSw; (try dsimp only at hSw); go_simp; try with_reducible rfl)
      try simp only [Act.put, List.setIfInBounds_toArray, List.set_cons_zero, List.set_cons_succ]
      refine wpAnyH_ready (rs := [42]) (by kernel_rfl) (by simp) ?_
      refine AllReadyH.cons (o := ⟨some 69, _, _, _, _, _⟩) rfl (fun K hK => ?_) AllReadyH.nil
      go_simp
      refine (set_Len (.agg #[.slice a9 n9 c9]) U _ (U6.out.below hBc)).mono ?_
      rintro e w' ⟨rfl, hBx⟩
      have hBc := below_step hBc hBx
      go_wp2_with fail
      refine hK.out _ _ ?_ (fun hHeldX => ?_)
      · exact ⟨(hBc.cell (p := ⟨w3.heap.size, 0, none⟩) pA).trans cA, (hBc.cell (p := ⟨w3.heap.size + 1, 0, none⟩) pB).trans cB, (hBc.cell (p := ⟨w5.heap.size, 0, none⟩) pU).trans cU⟩
      clear hK K hHeld
      rename _ => hHeld
      try simp only [Act.put, List.setIfInBounds_toArray, List.set_cons_zero, List.set_cons_succ]
      refine wpAnyH_ready (rs := [44]) (by kernel_rfl) (by simp) ?_
      refine AllReadyH.cons (o := ⟨some 71, _, _, _, _, _⟩) rfl (fun K hK => ?_) AllReadyH.nil
      go_simp
      refine (set_Len (.agg #[.slice a7 n7 c7]) A _ (R6.out.below hBc)).mono ?_
      rintro e w' ⟨rfl, hBx⟩
      have hBc := below_step hBc hBx
      go_wp2_with fail
      refine hK.out _ _ ?_ (fun hHeldX => ?_)
      · exact ⟨(hBc.cell (p := ⟨w3.heap.size, 0, none⟩) pA).trans cA, (hBc.cell (p := ⟨w3.heap.size + 1, 0, none⟩) pB).trans cB, (hBc.cell (p := ⟨w5.heap.size, 0, none⟩) pU).trans cU⟩
      clear hK K hHeld
      rename _ => hHeld
      try simp only [Act.put, List.setIfInBounds_toArray, List.set_cons_zero, List.set_cons_succ]
      refine wpAnyH_ready (rs := [46]) (by kernel_rfl) (by simp) ?_
      refine AllReadyH.cons (o := ⟨some 73, _, _, _, _, _⟩) rfl (fun K hK => ?_) AllReadyH.nil
      go_simp
      refine (set_Len (.agg #[.slice a8 n8 c8]) B _ (S6.out.below hBc)).mono ?_
      rintro e w' ⟨rfl, hBx⟩
      have hBc := below_step hBc hBx
      go_wp2_with fail
      refine hK.out _ _ ?_ (fun hHeldX => ?_)
      · exact ⟨(hBc.cell (p := ⟨w3.heap.size, 0, none⟩) pA).trans cA, (hBc.cell (p := ⟨w3.heap.size + 1, 0, none⟩) pB).trans cB, (hBc.cell (p := ⟨w5.heap.size, 0, none⟩) pU).trans cU⟩
      clear hK K hHeld
      rename _ => hHeld
      try simp only [Act.put, List.setIfInBounds_toArray, List.set_cons_zero, List.set_cons_succ]
      refine wpAnyH_take (i := 47) (oi := ⟨some 74, _, _, _, _, _⟩) (v := ?vc47) rfl (by kernel_rfl) (by kernel_rfl) (by kernel_rfl) (fun _ _ _ h => h) (Or.inl ⟨by rfl, ?hyc47⟩) (by assumption) ?restc47
      case hyc47 => (intro w hSw; (try dsimp only at hSw); go_simp; try with_reducible rfl)
      try simp only [Act.put, List.setIfInBounds_toArray, List.set_cons_zero, List.set_cons_succ]
      refine wpAnyH_take (i := 48) (oi := ⟨some 75, _, _, _, _, _⟩) (v := ?vc48) rfl (by kernel_rfl) (by kernel_rfl) (by kernel_rfl) (fun _ _ _ h => h) (Or.inl ⟨by rfl, ?hyc48⟩) (by assumption) ?restc48
      case hyc48 => (intro w hSw; (try dsimp only at hSw); go_simp; try with_reducible rfl)
      try simp only [Act.put, List.setIfInBounds_toArray, List.set_cons_zero, List.set_cons_succ]
      refine wpAnyH_take (i := 49) (oi := ⟨some 76, _, _, _, _, _⟩) (v := ?vc49) rfl (by kernel_rfl) (by kernel_rfl) (by kernel_rfl) (fun _ _ _ h => h) (Or.inl ⟨by rfl, ?hyc49⟩) (by assumption) ?restc49
      case hyc49 => (intro w hSw; (try dsimp only at hSw); go_simp; try with_reducible rfl)
      try simp only [Act.put, List.setIfInBounds_toArray, List.set_cons_zero, List.set_cons_succ]
      refine wpAnyH_take (i := 50) (oi := ⟨some 6, _, _, _, _, _⟩) (v := ?vc50) rfl (by kernel_rfl) (by kernel_rfl) (by kernel_rfl) (fun _ _ _ h => h) (Or.inl ⟨by rfl, ?hyc50⟩) (by assumption) ?restc50
      case hyc50 => (intro w hSw; (try dsimp only at hSw); go_simp; try with_reducible rfl)
      try simp only [Act.put, List.setIfInBounds_toArray, List.set_cons_zero, List.set_cons_succ]
      refine wpAnyH_done (by kernel_rfl) ?_ _
      refine NoPanic.normal ?_
      go_wp2
      go_ret
      refine ⟨?_, below_step B6.out hBc⟩
      show Ending.returned (.bool (decide (max (A.length : Int) (B.length : Int) ≤ (U.length : Int)))) = _
      rw [decide_eq_true (Int.max_le.2 ⟨q3, q4⟩)]

end Go.Proofs.Ytlfehhegkpoojaa
