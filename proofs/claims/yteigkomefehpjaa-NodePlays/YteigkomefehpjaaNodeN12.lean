/- Layer 12: the example; no nodes. -/
import Derived.Test.YteigkomefehpjaaNodeK12
import Derived.Test.YteigkomefehpjaaIntsRef
import Derived.Deep.RegionHeld3
namespace Go.Proofs.Yteigkomefehpjaa
open Go.RowKit Go.Shelf

attribute [local go_sem] Oper.semAt_some
abbrev noS : Nat → Prop := fun _ => False
theorem NdIs.pis {S : Nat → Prop} {W : World} {b : Nat} {L : List Int} {E : List Ent} {z : Nat} (h : NdIs S W b L E z) : PIs S W (.pointer (some ⟨b, 0, none⟩)) L E (z + 1) := .inr ⟨b, rfl, by omega, h⟩

/-- A list of four numbers that is made. -/
theorem alloc4 {W0 cur : World} (h : Below W0.heap.size W0 cur) (a b c d : Int) : ∃ v, Value.slice (some ⟨cur.heap.size, 0, none⟩) 4 4 = v ∧ NumsIn (cur.alloc (.cells #[.int .i64 a, .int .i64 b, .int .i64 c, .int .i64 d] 3)) v [a, b, c, d] ∧ Below W0.heap.size W0 (cur.alloc (.cells #[.int .i64 a, .int .i64 b, .int .i64 c, .int .i64 d] 3)) := by
  refine ⟨_, rfl, ⟨rfl, .inr ⟨cur.heap.size, 0, 4, rfl, Nat.le_refl _, by simp, ?_⟩⟩, h.alloc h.size _⟩
  have := cellsAt_block cur [.int .i64 a, .int .i64 b, .int .i64 c, .int .i64 d] 3
  simpa using this
/-- What several ways come to is proved once. -/
theorem cut_goal {G P : Prop} (h : G → P) (t : G) : P := h t
/-- The result's box is written to, the mark is taken. -/
theorem leaf12 {w W0 cur : World} {B D : Nat} (hw : Below w.heap.size w W0) (hB : w.heap.size ≤ B) (hD : w.heap.size ≤ D) (b0 : Blk 4 W0 B [.bool false]) (K0 : W0.heap[D]? = some (.deferred (some []))) (hC : Below W0.heap.size W0 cur) :
    (cur.setCell ⟨B, 0, none⟩ (.bool true)).heap[D]? = some (.deferred (some [])) ∧ ((cur.setCell ⟨B, 0, none⟩ (.bool true)).putObj D (.deferred none)).cell? ⟨B, 0, none⟩ = some (.bool true) ∧ Below w.heap.size w ((cur.setCell ⟨B, 0, none⟩ (.bool true)).putObj D (.deferred none)) := by
  have hDl : D < W0.heap.size := (Array.getElem?_eq_some_iff.1 K0).1
  have k1 : cur.heap[D]? = some (.deferred (some [])) := (hC.block D hDl).trans K0
  have k2 : (cur.setCell ⟨B, 0, none⟩ (.bool true)).heap[D]? = some (.deferred (some [])) := (KeepsOthers.setCell cur ⟨B, 0, none⟩ (.bool true)).same D _ k1 rfl
  have b1 := (b0.below hC b0.lt).set 0 (.bool true)
  have b2 : (cur.setCell ⟨B, 0, none⟩ (.bool true)).cell? ⟨B, 0, none⟩ = some (.bool true) := b1.at (o := 0) rfl
  refine ⟨k2, cell_kept b2 (grownBy_putObj' _ D (.deferred none)) (fun r e => by cases e; exact ⟨_, k2, rfl⟩), ?_⟩
  have h1 : Below w.heap.size w cur := hw.trans (hC.mono hw.size)
  have h2 := h1.setCell (p := ⟨B, 0, none⟩) hB (.bool true)
  exact h2.grown (grownBy_putObj' _ D (.deferred none)) (by have := h2.size; omega) (fun k e => by cases e; exact hD)

set_option maxHeartbeats 1000000 in
theorem awake12 (w : World) : Calls Try.prog 5 #[] w fun e w' => e = .returned (.bool true) ∧ Below w.heap.size w w' := by
  go_enter Try.func5, Try.ntmps5
  go_wp2_with fail
  refine (nd_WithSub (S := noS) (.pointer none) [] [] 0 1 w (fun _ _ h => h) (pIs_nil _) (by simp)).mono ?_
  rintro e w1 ⟨b, rfl, hn, hB1⟩
  have H1 := Lib.hid hn.pis
  have B1 := Lib.hid hB1
  clear hn hB1
  go_wp2_with fail
  refine (nd_Size _ _ _ _ w1 H1.out (by simp)).mono ?_
  rintro e w' ⟨rfl, rfl⟩
  go_wp2_with fail
  refine (nd_Bare _ _ _ _ w1 H1.out false (by simp [withZ])).mono ?_
  rintro e w2 ⟨rfl, hB2⟩
  have B2 := Lib.hid (below_step B1.out hB2)
  clear hB2
  go_wp2_with fail
  refine (nd_Bare (S := noS) _ [] [] 0 w2 (pIs_nil _) true (by simp)).mono ?_
  rintro e w3 ⟨rfl, hB3⟩
  have B3 := Lib.hid (below_step B2.out hB3)
  clear hB3
  go_wp2_with fail
  refine (nd_Size (S := noS) (.pointer none) [] [] 0 w3 (pIs_nil _) (by simp)).mono ?_
  rintro e w' ⟨rfl, rfl⟩
  go_wp2
  go_ret
  exact ⟨rfl, B3.out⟩

set_option maxRecDepth 100000 in
set_option maxHeartbeats 40000000 in
theorem none12 (x : Int) (k : Key) (hk : k.length ≤ 100) (w : World) : Calls Try.prog 4 #[.int .i64 x, keyV k] w fun e w' => e = .returned (.bool true) ∧ Below w.heap.size w w' := by
  have hnil : ∀ (W : World) (p : Array Value), Sem.run Try.prog (binOp BinOp.eql 48 (Value.func (Fn.func 44) #[] p) Value.nilFunc) W = .ok (.bool false) W := fun _ _ => by kernel_rfl
  refine (callsIn_wide (n := 6)).1 ?_
  refine callsIn_of_wp_marks Try.func4 rfl trivial ?_ rfl
  simp only [Try.ntmps4, List.size_toArray, List.length_cons, List.length_nil, Nat.reduceAdd, Nat.reduceSub, Array.replicate_succ, Array.replicate_zero, List.push_toArray, List.append_toArray, List.nil_append, List.cons_append]
  gi_wp2_with fail
  refine ⟨trivial, (callsIn_wide.2 (awake12 _)).mono ?_⟩
  rintro e w1 ⟨rfl, hB1⟩
  have hz1 := hB1.size
  simp at hz1
  have b1 : Blk 4 w1 w.heap.size [.bool false] := (Blk.new (W := w) (t := 4) (l := [.bool false])).below hB1 (by simp)
  have B1 := Lib.hid (below_step (new_below w _) hB1)
  clear hB1
  gi_wp2_with fail
  refine ⟨trivial, (callsIn_wide.2 (nd_Subs (S := noS) (.pointer none) [] [] 0 w1 (pIs_nil _))).mono ?_⟩
  rintro e w2 ⟨a1, n1, c1, rfl, hs, hB2⟩
  have b2 := b1.below hB2 b1.lt
  have hz2 := hB2.size
  have HS := Lib.hid (hs.below hB2)
  have B2 := Lib.hid (below_step B1.out hB2)
  clear hs hB2 b1
  gi_wp2_with fail
  refine ⟨trivial, (callsIn_wide.2 (set_Len _ [] w2 HS.out)).mono ?_⟩
  rintro e w3 ⟨rfl, hB3⟩
  have b3 := b2.below hB3 b2.lt
  have hz3 := hB3.size
  have B3 := Lib.hid (below_step B2.out hB3)
  rw [show ((([] : List Int).length : Nat) : Int) = 0 from rfl]
  clear hB3 b2 HS
  gi_wp2_with fail
  refine ⟨trivial, (callsIn_wide.2 (nd_Kid (S := noS) (.pointer none) [] [] 0 k w3 (pIs_nil _) (by simp))).mono ?_⟩
  rintro e w4 ⟨rfl, hB4⟩
  rw [show kidV (getE k []) = .pointer none from rfl]
  have b4 := b3.below hB4 b3.lt
  have hz4 := hB4.size
  have B4 := Lib.hid (below_step B3.out hB4)
  clear hB4 b3
  gi_wp2_with fail
  obtain ⟨s, hks, _, hcall⟩ := nd_Kids (S := noS) (.pointer none) [] [] 0 w4 (pIs_nil _)
  refine ⟨trivial, (callsIn_wide.2 (hcall w4 (Below.refl _ _))).mono ?_⟩
  rintro e w5 ⟨W5, hB5, rfl, rfl⟩
  have b5 := (b4.below hB5 b4.lt).alloc (.cells #[s] 54)
  have B5 := Lib.hid (below_step (below_step B4.out hB5) (new_below W5 (.cells #[s] 54)))
  have hz5 := hB5.size
  generalize hw6 : W5.alloc (.cells #[s] 54) = w6 at b5 B5 ⊢
  have hz6 : w6.heap.size = W5.heap.size + 1 := by rw [← hw6]; simp
  clear hcall hks b4 hB5 hw6
  gi_wp2_with fail
  obtain ⟨s2, hks, _, hcall⟩ := nd_Kids (S := noS) (.pointer none) [] [] 0 w6 (pIs_nil _)
  refine ⟨trivial, (callsIn_wide.2 (hcall w6 (Below.refl _ _))).mono ?_⟩
  rintro e w7 ⟨W7, hB7, rfl, rfl⟩
  have b7 := (b5.below hB7 b5.lt).alloc (.cells #[s2] 54)
  have B7 := Lib.hid (below_step (below_step B5.out hB7) (new_below W7 (.cells #[s2] 54)))
  have hz7 := hB7.size
  have hp7 : PtsIn (W7.alloc (.cells #[s2] 54)) s2 [] := by
    obtain ⟨⟨s', hv, hs'⟩, _⟩ := hks.below (below_step hB7 (new_below W7 _))
    cases hv; exact hs'
  have hc7 : (W7.alloc (.cells #[s2] 54)).cell? ⟨W7.heap.size, 0, none⟩ = some s2 := by simp
  clear hcall hks b5 hB7
  generalize hw8 : W7.alloc (.cells #[s2] 54) = w8 at b7 B7 hp7 hc7 ⊢
  have hz8 : w8.heap.size = W7.heap.size + 1 := by rw [← hw8]; simp
  clear hw8
  gi_wp2_with fail
  refine wpIn_rangeFunc_ownG rfl (by omega) (gf := 44) (lb := #[.pointer (some ⟨W7.heap.size, 0, none⟩)]) rfl trivial (enters_of Try.func44 (by kernel_rfl) rfl)
    (kids_each_stops 5 (by omega) W7.heap.size s2 [] (by simp) w8 (by omega) hc7 hp7) (fun h k => h.trans k) (fun W l o o' _ h h1 _ => kpS_book W l o o' h h1) (Below.refl _ _) (fun _ => rfl)
    (fun (_ : List { p : Ent // p ∈ ([] : List Ent) }) W => Blk 4 W w.heap.size [.bool false] ∧ Below w8.heap.size w8 W)
    (fun _ _ _ => False)
    (OwnFrom.and (Own.from (blk_own 4 w.heap.size (fun _ : List { p : Ent // p ∈ ([] : List Ent) } => [.bool false])) _) (ownFrom_below (Nat.le_refl _) (Nat.le_refl _)))
    (fun _ _ _ _ _ hs _ _ => hs)
    ⟨b7, Below.refl _ _⟩
    (fun _ => { tmps := #[], defers := [] }) ?assign ?body ?done ?stop
  case assign =>
    intro l y W K hK
    exact absurd y.2 (by simp)
  case body =>
    intro l pre y W
    exact absurd y.2 (by simp)
  case stop =>
    rintro D c pre W _ _ h _
    exact h.elim
  case done =>
    rintro D ys W hD hys ⟨b9, hO⟩ hK
    have B9 := Lib.hid (B7.out.trans (hO.mono B7.out.size))
    have hzw := B9.out.size
    have hDl : D < W.heap.size := (Array.getElem?_eq_some_iff.1 hK).1
    clear hO b7 B7 B5 B4 B3 B2 B1 hp7 hc7
    gi_wp2_with fail
    refine ⟨trivial, (callsIn_wide.2 (nd_WithSub (S := noS) (.pointer none) [] [] 0 x W (fun _ _ h => h) (pIs_nil _) (by simp))).mono ?_⟩
    rintro e x1 ⟨ba, rfl, hn, hB⟩
    have HA := Lib.hid hn.pis
    have K1 : Hid (x1.heap[D]? = some (.deferred (some []))) := Lib.hid ((hB.block D hDl).trans hK)
    have c1 := b9.below hB b9.lt
    have C1 := Lib.hid (below_step B9.out hB)
    have y1 := hB.size
    clear hn hB hK b9
    gi_wp2_with fail
    refine ⟨trivial, (callsIn_wide.2 (nd_WithSub (S := noS) (.pointer none) [] [] 0 x x1 (fun _ _ h => h) (pIs_nil _) (by simp))).mono ?_⟩
    rintro e x2 ⟨bt, rfl, hn, hB⟩
    have HA2 := Lib.hid (HA.out.below hB)
    have HT2 := Lib.hid hn.pis
    have K2 : Hid (x2.heap[D]? = some (.deferred (some []))) := Lib.hid ((hB.block D (by omega)).trans K1.out)
    have c2 := c1.below hB c1.lt
    have C2 := Lib.hid (below_step C1.out hB)
    have y2 := hB.size
    clear hn hB HA K1 c1 C1
    gi_wp2_with fail
    refine ⟨trivial, (callsIn_wide.2 (nd_WithKid (S := noS) (.pointer none) (.pointer (some ⟨bt, 0, none⟩)) [] [x] [] [] 0 1 k x2 (fun _ _ h => h) (pIs_nil _) HT2.out (by simp) [(k, (bt : Int))] (.inr ⟨by simp, bt, rfl, rfl⟩) (fun _ => 1) (by
      intro p hp
      obtain rfl : p = (k, (bt : Int)) := by simpa using hp
      exact ⟨⟨_, _, HT2.out⟩, by omega⟩))).mono ?_⟩
    rintro e x3 ⟨bb, rfl, hn, hB⟩
    have HA3 := Lib.hid (HA2.out.below hB)
    have HB3 := Lib.hid hn.pis
    have K3 : Hid (x3.heap[D]? = some (.deferred (some []))) := Lib.hid ((hB.block D (by omega)).trans K2.out)
    have c3 := c2.below hB c2.lt
    have C3 := Lib.hid (below_step C2.out hB)
    have y3 := hB.size
    clear hn hB HA2 HT2 K2 c2 C2
    gi_wp2_with fail
    refine ⟨trivial, (callsIn_wide.2 (nd_WithKid (S := noS) (.pointer (some ⟨bb, 0, none⟩)) (.pointer none) [] [] [(k, (bt : Int))] [] _ 0 k x3 (fun _ _ h => h) HB3.out (pIs_nil _) (by simp) [] (.inl ⟨rfl, rfl, by simp [dropE]⟩) (fun _ => 1) (by simp))).mono ?_⟩
    rintro e x4 ⟨bc, rfl, hn, hB⟩
    have HA4 := Lib.hid (HA3.out.below hB)
    have HB4 := Lib.hid (HB3.out.below hB)
    have HC4 := Lib.hid hn.pis
    have K4 : Hid (x4.heap[D]? = some (.deferred (some []))) := Lib.hid ((hB.block D (by omega)).trans K3.out)
    have c4 := c3.below hB c3.lt
    have C4 := Lib.hid (below_step C3.out hB)
    have y4 := hB.size
    clear hn hB HA3 HB3 K3 c3 C3
    gi_wp2_with fail
    refine ⟨trivial, (callsIn_wide.2 (nd_WithoutSub _ _ _ _ x x4 (fun _ _ h => h) HA4.out (by simp [withZ]))).mono ?_⟩
    rintro e x5 ⟨bd, rfl, hn, hB⟩
    have HA5 := Lib.hid (HA4.out.below hB)
    have HB5 := Lib.hid (HB4.out.below hB)
    have HC5 := Lib.hid (HC4.out.below hB)
    have HD5 := Lib.hid hn.pis
    have K5 : Hid (x5.heap[D]? = some (.deferred (some []))) := Lib.hid ((hB.block D (by omega)).trans K4.out)
    have c5 := c4.below hB c4.lt
    have C5 := Lib.hid (below_step C4.out hB)
    have y5 := hB.size
    clear hn hB HA4 HB4 HC4 K4 c4 C4
    gi_wp2_with fail
    refine ⟨trivial, (callsIn_wide.2 (nd_Subs _ _ _ _ x5 HD5.out)).mono ?_⟩
    rintro e x6 ⟨sa, sn, sc, rfl, hs, hB⟩
    have HA6 := Lib.hid (HA5.out.below hB)
    have HB6 := Lib.hid (HB5.out.below hB)
    have HC6 := Lib.hid (HC5.out.below hB)
    have HS6 := Lib.hid (hs.below hB)
    have K6 : Hid (x6.heap[D]? = some (.deferred (some []))) := Lib.hid ((hB.block D (by omega)).trans K5.out)
    have c6 := c5.below hB c5.lt
    have C6 := Lib.hid (below_step C5.out hB)
    have y6 := hB.size
    clear hs hB HA5 HB5 HC5 HD5 K5 c5 C5
    gi_wp2_with fail
    obtain ⟨W0, hW0⟩ : ∃ W, W = x6.alloc (.cells #[.slice sa sn sc] 45) := ⟨_, rfl⟩
    have hN0 : Below x6.heap.size x6 W0 := by rw [hW0]; exact new_below _ _
    have hz0 : W0.heap.size = x6.heap.size + 1 := by rw [hW0]; simp
    have hx0 : W0.cell? ⟨x6.heap.size, 0, none⟩ = some (.slice sa sn sc) := by rw [hW0]; simp
    rw [← hW0]
    clear hW0
    have HA := Lib.hid (HA6.out.below hN0)
    have HB := Lib.hid (HB6.out.below hN0)
    have HC := Lib.hid (HC6.out.below hN0)
    have HS : Hid (SetIn W0 (.agg #[.slice sa sn sc]) []) := Lib.hid (by have := HS6.out.below hN0; simpa [withZ, woZ] using this)
    have C0 := Lib.hid (below_step C6.out hN0)
    have b0 := c6.below hN0 c6.lt
    have K0 : Hid (W0.heap[D]? = some (.deferred (some []))) := Lib.hid ((hN0.block D (by omega)).trans K6.out)
    have hwl : w.heap.size < W0.heap.size := b0.lt
    have hw0 : Hid (∀ c, Below W0.heap.size W0 c → c.cell? ⟨w.heap.size, 0, none⟩ = some (.bool false)) := Lib.hid fun c hc => (b0.below hc hwl).at (o := 0) rfl
    have hf0 : Hid (∀ c, Below W0.heap.size W0 c → c.frozen? ⟨w.heap.size, 0, none⟩ = false) := Lib.hid fun c hc => (b0.below hc hwl).frozen 0
    have ZA : Hid (∀ c, Below W0.heap.size W0 c → Calls Try.prog 14 #[.pointer (some ⟨ba, 0, none⟩)] c fun e w' => e = .returned (.int .i64 1) ∧ c = w') := Lib.hid fun c hc => nd_Size _ _ _ _ c (HA.out.below hc) (by simp)
    have ZB : Hid (∀ c, Below W0.heap.size W0 c → Calls Try.prog 14 #[.pointer (some ⟨bb, 0, none⟩)] c fun e w' => e = .returned (.int .i64 2) ∧ c = w') := Lib.hid fun c hc => nd_Size _ _ _ _ c (HB.out.below hc) (by simp)
    have ZC : Hid (∀ c, Below W0.heap.size W0 c → Calls Try.prog 14 #[.pointer (some ⟨bc, 0, none⟩)] c fun e w' => e = .returned (.int .i64 1) ∧ c = w') := Lib.hid fun c hc => nd_Size _ _ _ _ c (HC.out.below hc) (by simp)
    have BX : Hid (∀ c, Below W0.heap.size W0 c → c.cell? ⟨x6.heap.size, 0, none⟩ = some (.slice sa sn sc)) := Lib.hid fun c hc => (hc.cell (p := ⟨x6.heap.size, 0, none⟩) (by show x6.heap.size < W0.heap.size; omega)).trans hx0
    have hC : Below W0.heap.size W0 W0.drew := (Below.refl _ _).drew
    have BB0 := Lib.hid b0
    have hwx6 : w.heap.size < x6.heap.size := c6.lt
    clear HA6 HB6 HC6 HS6 K6 c6 hN0 b0 hz0
    refine wpIn_wide.2 ?_
    rename_i Kx hKx
    refine wp_mono (Q := Exit.then Kx (fun _ _ _ => False)) ?_ (fun e a w h => by cases e <;> first | exact h | exact h.elim)
    apply cut_goal
    · intro TAIL
      refine wp_region_held_drew (S := (fun w' => w'.cell? ⟨x6.heap.size, 0, none⟩ = some (.slice sa sn sc))) (by kernel_rfl) ?_ (fun hHeld => ?_)
      · exact BX.out _ hC
      refine wpAnyH_take (i := 0) (oi := ⟨some 51, _, _, _, _, _⟩) (v := ?_) rfl (by kernel_rfl) (by kernel_rfl) (by kernel_rfl) (fun _ _ _ h => h) (Or.inl ⟨by rfl, ?_⟩) (by assumption) ?_
      rotate_left
      · (intro w hSw; (try dsimp only at hSw); go_simp; try with_reducible rfl)
      try simp only [Act.put, List.setIfInBounds_toArray, List.set_cons_zero, List.set_cons_succ]
      refine wpAnyH_take (i := 2) (oi := ⟨some 53, _, _, _, _, _⟩) (v := ?_) rfl (by kernel_rfl) (by kernel_rfl) (by kernel_rfl) (fun _ _ _ h => h) (Or.inl ⟨by rfl, ?_⟩) (by assumption) ?_
      rotate_left
      · (intro w hSw; (try dsimp only at hSw); go_simp; try with_reducible rfl)
      try simp only [Act.put, List.setIfInBounds_toArray, List.set_cons_zero, List.set_cons_succ]
      refine wpAnyH_take (i := 4) (oi := ⟨some 55, _, _, _, _, _⟩) (v := ?_) rfl (by kernel_rfl) (by kernel_rfl) (by kernel_rfl) (fun _ _ _ h => h) (Or.inl ⟨by rfl, ?_⟩) (by assumption) ?_
      rotate_left
      · (intro w hSw; (try dsimp only at hSw); go_simp; try with_reducible rfl)
      try simp only [Act.put, List.setIfInBounds_toArray, List.set_cons_zero, List.set_cons_succ]
      refine wpAnyH_take (i := 6) (oi := ⟨some 57, _, _, _, _, _⟩) (v := ?_) rfl (by kernel_rfl) (by kernel_rfl) (by kernel_rfl) (fun _ _ _ h => h) (Or.inl ⟨by rfl, ?_⟩) (by assumption) ?_
      rotate_left
      · (intro w hSw; (try dsimp only at hSw); go_simp; try with_reducible rfl)
      try simp only [Act.put, List.setIfInBounds_toArray, List.set_cons_zero, List.set_cons_succ]
      refine wpAnyH_ready (rs := [1, 9]) (by kernel_rfl) (by simp) ?_
      refine AllReadyH.cons (o := ⟨some 52, _, _, _, _, _⟩) rfl (fun K hK => ?_) (AllReadyH.cons (o := ⟨some 60, _, _, _, _, _⟩) rfl (fun K hK => ?_) AllReadyH.nil)
      · go_simp
        refine (ZA.out _ hC).mono ?_
        rintro e wx ⟨rfl, rfl⟩
        go_wp2_with fail
        refine hK.out _ _ ?_ (fun hHeldX => ?_)
        · exact BX.out _ hC
        clear hK K hHeld
        rename _ => hHeld
        try simp only [Act.put, List.setIfInBounds_toArray, List.set_cons_zero, List.set_cons_succ]
        refine wpAnyH_ready (rs := [3, 9]) (by kernel_rfl) (by simp) ?_
        refine AllReadyH.cons (o := ⟨some 54, _, _, _, _, _⟩) rfl (fun K hK => ?_) (AllReadyH.cons (o := ⟨some 60, _, _, _, _, _⟩) rfl (fun K hK => ?_) AllReadyH.nil)
        · go_simp
          refine (ZB.out _ hC).mono ?_
          rintro e wx ⟨rfl, rfl⟩
          go_wp2_with fail
          refine hK.out _ _ ?_ (fun hHeldX => ?_)
          · exact BX.out _ hC
          clear hK K hHeld
          rename _ => hHeld
          try simp only [Act.put, List.setIfInBounds_toArray, List.set_cons_zero, List.set_cons_succ]
          refine wpAnyH_ready (rs := [5, 9]) (by kernel_rfl) (by simp) ?_
          refine AllReadyH.cons (o := ⟨some 56, _, _, _, _, _⟩) rfl (fun K hK => ?_) (AllReadyH.cons (o := ⟨some 60, _, _, _, _, _⟩) rfl (fun K hK => ?_) AllReadyH.nil)
          · go_simp
            refine (ZC.out _ hC).mono ?_
            rintro e wx ⟨rfl, rfl⟩
            go_wp2_with fail
            refine hK.out _ _ ?_ (fun hHeldX => ?_)
            · exact BX.out _ hC
            clear hK K hHeld
            rename _ => hHeld
            try simp only [Act.put, List.setIfInBounds_toArray, List.set_cons_zero, List.set_cons_succ]
            refine wpAnyH_ready (rs := [7, 9]) (by kernel_rfl) (by simp) ?_
            refine AllReadyH.cons (o := ⟨some 58, _, _, _, _, _⟩) rfl (fun K hK => ?_) (AllReadyH.cons (o := ⟨some 60, _, _, _, _, _⟩) rfl (fun K hK => ?_) AllReadyH.nil)
            · go_simp
              refine (set_Len _ [] _ (HS.out.below hC)).mono ?_
              rintro e wx ⟨rfl, hBx⟩
              rw [show ((([] : List Int).length : Nat) : Int) = 0 from rfl]
              replace hC := below_step hC hBx
              try replace h8 := h8.below hBx
              try replace h9 := h9.below hBx
              go_wp2_with fail
              refine hK.out _ _ ?_ (fun hHeldX => ?_)
              · exact BX.out _ hC
              clear hK K hHeld
              rename _ => hHeld
              try simp only [Act.put, List.setIfInBounds_toArray, List.set_cons_zero, List.set_cons_succ]
              refine wpAnyH_ready (rs := [8, 9]) (by kernel_rfl) (by simp) ?_
              refine AllReadyH.cons (o := ⟨some 59, _, _, _, _, _⟩) rfl (fun K hK => ?_) (AllReadyH.cons (o := ⟨some 60, _, _, _, _, _⟩) rfl (fun K hK => ?_) AllReadyH.nil)
              · go_simp
                try replace h9 := h9.below (new_below _ (.cells #[.int .i64 1, .int .i64 2, .int .i64 1, .int .i64 0] 3))
                obtain ⟨v8, e8, h8, hC9⟩ := alloc4 hC 1 2 1 0
                replace hC := hC9
                clear hC9
                try simp only [World.size_alloc] at e8
                first | rw [e8] | (replace e8 : Value.slice (some ⟨W0.heap.size, 0, none⟩) 4 4 = v8 := e8; rw [e8])
                clear e8
                try replace hC : Below W0.heap.size W0 (W0.alloc (.cells #[.int .i64 1, .int .i64 2, .int .i64 1, .int .i64 0] 3)).drew := hC
                try replace h8 : NumsIn (W0.alloc (.cells #[.int .i64 1, .int .i64 2, .int .i64 1, .int .i64 0] 3)).drew v8 [1, 2, 1, 0] := h8
                refine hK.out _ _ ?_ (fun hHeldX => ?_)
                · exact BX.out _ hC
                clear hK K hHeld
                rename _ => hHeld
                try simp only [Act.put, List.setIfInBounds_toArray, List.set_cons_zero, List.set_cons_succ]
                refine wpAnyH_ready (rs := [9]) (by kernel_rfl) (by simp) ?_
                refine AllReadyH.cons (o := ⟨some 60, _, _, _, _, _⟩) rfl (fun K hK => ?_) AllReadyH.nil
                go_simp
                try replace h8 := h8.below (new_below _ (.cells #[.int .i64 1, .int .i64 2, .int .i64 1, .int .i64 0] 3))
                obtain ⟨v9, e9, h9, hC9⟩ := alloc4 hC 1 2 1 0
                replace hC := hC9
                clear hC9
                try simp only [World.size_alloc] at e9
                first | rw [e9] | (replace e9 : Value.slice (some ⟨W0.heap.size, 0, none⟩) 4 4 = v9 := e9; rw [e9])
                clear e9
                try replace hC : Below W0.heap.size W0 (W0.alloc (.cells #[.int .i64 1, .int .i64 2, .int .i64 1, .int .i64 0] 3)).drew := hC
                try replace h9 : NumsIn (W0.alloc (.cells #[.int .i64 1, .int .i64 2, .int .i64 1, .int .i64 0] 3)).drew v9 [1, 2, 1, 0] := h9
                refine hK.out _ _ ?_ (fun hHeldX => ?_)
                · exact BX.out _ hC
                clear hK K hHeld
                rename _ => hHeld
                try simp only [Act.put, List.setIfInBounds_toArray, List.set_cons_zero, List.set_cons_succ]
                refine wpAnyH_ready (rs := [10]) (by kernel_rfl) (by simp) ?_
                refine AllReadyH.cons (o := ⟨some 61, _, _, _, _, _⟩) rfl (fun K hK => ?_) AllReadyH.nil
                go_simp
                refine (ref_Ints _ _ _ _ _ h8 h9 (by simp) (by simp)).mono ?_
                rintro e wx ⟨rfl, hBx⟩
                rw [show decide (([1, 2, 1, 0] : List Int) = [1, 2, 1, 0]) = true from rfl]
                clear h8 h9
                replace hC := below_step hC hBx
                clear hBx
                go_wp2_with fail
                refine hK.out _ _ ?_ (fun hHeldX => ?_)
                · exact BX.out _ hC
                clear hK K hHeld
                rename _ => hHeld
                try simp only [Act.put, List.setIfInBounds_toArray, List.set_cons_zero, List.set_cons_succ]
                revert hHeld
                revert hC
                revert wx
                revert v9
                revert v8
                exact TAIL
              · go_simp
                try replace h8 := h8.below (new_below _ (.cells #[.int .i64 1, .int .i64 2, .int .i64 1, .int .i64 0] 3))
                obtain ⟨v9, e9, h9, hC9⟩ := alloc4 hC 1 2 1 0
                replace hC := hC9
                clear hC9
                try simp only [World.size_alloc] at e9
                first | rw [e9] | (replace e9 : Value.slice (some ⟨W0.heap.size, 0, none⟩) 4 4 = v9 := e9; rw [e9])
                clear e9
                try replace hC : Below W0.heap.size W0 (W0.alloc (.cells #[.int .i64 1, .int .i64 2, .int .i64 1, .int .i64 0] 3)).drew := hC
                try replace h9 : NumsIn (W0.alloc (.cells #[.int .i64 1, .int .i64 2, .int .i64 1, .int .i64 0] 3)).drew v9 [1, 2, 1, 0] := h9
                refine hK.out _ _ ?_ (fun hHeldX => ?_)
                · exact BX.out _ hC
                clear hK K hHeld
                rename _ => hHeld
                try simp only [Act.put, List.setIfInBounds_toArray, List.set_cons_zero, List.set_cons_succ]
                refine wpAnyH_ready (rs := [8]) (by kernel_rfl) (by simp) ?_
                refine AllReadyH.cons (o := ⟨some 59, _, _, _, _, _⟩) rfl (fun K hK => ?_) AllReadyH.nil
                go_simp
                try replace h9 := h9.below (new_below _ (.cells #[.int .i64 1, .int .i64 2, .int .i64 1, .int .i64 0] 3))
                obtain ⟨v8, e8, h8, hC9⟩ := alloc4 hC 1 2 1 0
                replace hC := hC9
                clear hC9
                try simp only [World.size_alloc] at e8
                first | rw [e8] | (replace e8 : Value.slice (some ⟨W0.heap.size, 0, none⟩) 4 4 = v8 := e8; rw [e8])
                clear e8
                try replace hC : Below W0.heap.size W0 (W0.alloc (.cells #[.int .i64 1, .int .i64 2, .int .i64 1, .int .i64 0] 3)).drew := hC
                try replace h8 : NumsIn (W0.alloc (.cells #[.int .i64 1, .int .i64 2, .int .i64 1, .int .i64 0] 3)).drew v8 [1, 2, 1, 0] := h8
                refine hK.out _ _ ?_ (fun hHeldX => ?_)
                · exact BX.out _ hC
                clear hK K hHeld
                rename _ => hHeld
                try simp only [Act.put, List.setIfInBounds_toArray, List.set_cons_zero, List.set_cons_succ]
                refine wpAnyH_ready (rs := [10]) (by kernel_rfl) (by simp) ?_
                refine AllReadyH.cons (o := ⟨some 61, _, _, _, _, _⟩) rfl (fun K hK => ?_) AllReadyH.nil
                go_simp
                refine (ref_Ints _ _ _ _ _ h8 h9 (by simp) (by simp)).mono ?_
                rintro e wx ⟨rfl, hBx⟩
                rw [show decide (([1, 2, 1, 0] : List Int) = [1, 2, 1, 0]) = true from rfl]
                clear h8 h9
                replace hC := below_step hC hBx
                clear hBx
                go_wp2_with fail
                refine hK.out _ _ ?_ (fun hHeldX => ?_)
                · exact BX.out _ hC
                clear hK K hHeld
                rename _ => hHeld
                try simp only [Act.put, List.setIfInBounds_toArray, List.set_cons_zero, List.set_cons_succ]
                revert hHeld
                revert hC
                revert wx
                revert v9
                revert v8
                exact TAIL
            · go_simp
              try replace h8 := h8.below (new_below _ (.cells #[.int .i64 1, .int .i64 2, .int .i64 1, .int .i64 0] 3))
              obtain ⟨v9, e9, h9, hC9⟩ := alloc4 hC 1 2 1 0
              replace hC := hC9
              clear hC9
              try simp only [World.size_alloc] at e9
              first | rw [e9] | (replace e9 : Value.slice (some ⟨W0.heap.size, 0, none⟩) 4 4 = v9 := e9; rw [e9])
              clear e9
              try replace hC : Below W0.heap.size W0 (W0.alloc (.cells #[.int .i64 1, .int .i64 2, .int .i64 1, .int .i64 0] 3)).drew := hC
              try replace h9 : NumsIn (W0.alloc (.cells #[.int .i64 1, .int .i64 2, .int .i64 1, .int .i64 0] 3)).drew v9 [1, 2, 1, 0] := h9
              refine hK.out _ _ ?_ (fun hHeldX => ?_)
              · exact BX.out _ hC
              clear hK K hHeld
              rename _ => hHeld
              try simp only [Act.put, List.setIfInBounds_toArray, List.set_cons_zero, List.set_cons_succ]
              refine wpAnyH_ready (rs := [7]) (by kernel_rfl) (by simp) ?_
              refine AllReadyH.cons (o := ⟨some 58, _, _, _, _, _⟩) rfl (fun K hK => ?_) AllReadyH.nil
              go_simp
              refine (set_Len _ [] _ (HS.out.below hC)).mono ?_
              rintro e wx ⟨rfl, hBx⟩
              rw [show ((([] : List Int).length : Nat) : Int) = 0 from rfl]
              replace hC := below_step hC hBx
              try replace h8 := h8.below hBx
              try replace h9 := h9.below hBx
              go_wp2_with fail
              refine hK.out _ _ ?_ (fun hHeldX => ?_)
              · exact BX.out _ hC
              clear hK K hHeld
              rename _ => hHeld
              try simp only [Act.put, List.setIfInBounds_toArray, List.set_cons_zero, List.set_cons_succ]
              refine wpAnyH_ready (rs := [8]) (by kernel_rfl) (by simp) ?_
              refine AllReadyH.cons (o := ⟨some 59, _, _, _, _, _⟩) rfl (fun K hK => ?_) AllReadyH.nil
              go_simp
              try replace h9 := h9.below (new_below _ (.cells #[.int .i64 1, .int .i64 2, .int .i64 1, .int .i64 0] 3))
              obtain ⟨v8, e8, h8, hC9⟩ := alloc4 hC 1 2 1 0
              replace hC := hC9
              clear hC9
              try simp only [World.size_alloc] at e8
              first | rw [e8] | (replace e8 : Value.slice (some ⟨W0.heap.size, 0, none⟩) 4 4 = v8 := e8; rw [e8])
              clear e8
              try replace hC : Below W0.heap.size W0 (W0.alloc (.cells #[.int .i64 1, .int .i64 2, .int .i64 1, .int .i64 0] 3)).drew := hC
              try replace h8 : NumsIn (W0.alloc (.cells #[.int .i64 1, .int .i64 2, .int .i64 1, .int .i64 0] 3)).drew v8 [1, 2, 1, 0] := h8
              refine hK.out _ _ ?_ (fun hHeldX => ?_)
              · exact BX.out _ hC
              clear hK K hHeld
              rename _ => hHeld
              try simp only [Act.put, List.setIfInBounds_toArray, List.set_cons_zero, List.set_cons_succ]
              refine wpAnyH_ready (rs := [10]) (by kernel_rfl) (by simp) ?_
              refine AllReadyH.cons (o := ⟨some 61, _, _, _, _, _⟩) rfl (fun K hK => ?_) AllReadyH.nil
              go_simp
              refine (ref_Ints _ _ _ _ _ h8 h9 (by simp) (by simp)).mono ?_
              rintro e wx ⟨rfl, hBx⟩
              rw [show decide (([1, 2, 1, 0] : List Int) = [1, 2, 1, 0]) = true from rfl]
              clear h8 h9
              replace hC := below_step hC hBx
              clear hBx
              go_wp2_with fail
              refine hK.out _ _ ?_ (fun hHeldX => ?_)
              · exact BX.out _ hC
              clear hK K hHeld
              rename _ => hHeld
              try simp only [Act.put, List.setIfInBounds_toArray, List.set_cons_zero, List.set_cons_succ]
              revert hHeld
              revert hC
              revert wx
              revert v9
              revert v8
              exact TAIL
          · go_simp
            try replace h8 := h8.below (new_below _ (.cells #[.int .i64 1, .int .i64 2, .int .i64 1, .int .i64 0] 3))
            obtain ⟨v9, e9, h9, hC9⟩ := alloc4 hC 1 2 1 0
            replace hC := hC9
            clear hC9
            try simp only [World.size_alloc] at e9
            first | rw [e9] | (replace e9 : Value.slice (some ⟨W0.heap.size, 0, none⟩) 4 4 = v9 := e9; rw [e9])
            clear e9
            try replace hC : Below W0.heap.size W0 (W0.alloc (.cells #[.int .i64 1, .int .i64 2, .int .i64 1, .int .i64 0] 3)).drew := hC
            try replace h9 : NumsIn (W0.alloc (.cells #[.int .i64 1, .int .i64 2, .int .i64 1, .int .i64 0] 3)).drew v9 [1, 2, 1, 0] := h9
            refine hK.out _ _ ?_ (fun hHeldX => ?_)
            · exact BX.out _ hC
            clear hK K hHeld
            rename _ => hHeld
            try simp only [Act.put, List.setIfInBounds_toArray, List.set_cons_zero, List.set_cons_succ]
            refine wpAnyH_ready (rs := [5]) (by kernel_rfl) (by simp) ?_
            refine AllReadyH.cons (o := ⟨some 56, _, _, _, _, _⟩) rfl (fun K hK => ?_) AllReadyH.nil
            go_simp
            refine (ZC.out _ hC).mono ?_
            rintro e wx ⟨rfl, rfl⟩
            go_wp2_with fail
            refine hK.out _ _ ?_ (fun hHeldX => ?_)
            · exact BX.out _ hC
            clear hK K hHeld
            rename _ => hHeld
            try simp only [Act.put, List.setIfInBounds_toArray, List.set_cons_zero, List.set_cons_succ]
            refine wpAnyH_ready (rs := [7]) (by kernel_rfl) (by simp) ?_
            refine AllReadyH.cons (o := ⟨some 58, _, _, _, _, _⟩) rfl (fun K hK => ?_) AllReadyH.nil
            go_simp
            refine (set_Len _ [] _ (HS.out.below hC)).mono ?_
            rintro e wx ⟨rfl, hBx⟩
            rw [show ((([] : List Int).length : Nat) : Int) = 0 from rfl]
            replace hC := below_step hC hBx
            try replace h8 := h8.below hBx
            try replace h9 := h9.below hBx
            go_wp2_with fail
            refine hK.out _ _ ?_ (fun hHeldX => ?_)
            · exact BX.out _ hC
            clear hK K hHeld
            rename _ => hHeld
            try simp only [Act.put, List.setIfInBounds_toArray, List.set_cons_zero, List.set_cons_succ]
            refine wpAnyH_ready (rs := [8]) (by kernel_rfl) (by simp) ?_
            refine AllReadyH.cons (o := ⟨some 59, _, _, _, _, _⟩) rfl (fun K hK => ?_) AllReadyH.nil
            go_simp
            try replace h9 := h9.below (new_below _ (.cells #[.int .i64 1, .int .i64 2, .int .i64 1, .int .i64 0] 3))
            obtain ⟨v8, e8, h8, hC9⟩ := alloc4 hC 1 2 1 0
            replace hC := hC9
            clear hC9
            try simp only [World.size_alloc] at e8
            first | rw [e8] | (replace e8 : Value.slice (some ⟨W0.heap.size, 0, none⟩) 4 4 = v8 := e8; rw [e8])
            clear e8
            try replace hC : Below W0.heap.size W0 (W0.alloc (.cells #[.int .i64 1, .int .i64 2, .int .i64 1, .int .i64 0] 3)).drew := hC
            try replace h8 : NumsIn (W0.alloc (.cells #[.int .i64 1, .int .i64 2, .int .i64 1, .int .i64 0] 3)).drew v8 [1, 2, 1, 0] := h8
            refine hK.out _ _ ?_ (fun hHeldX => ?_)
            · exact BX.out _ hC
            clear hK K hHeld
            rename _ => hHeld
            try simp only [Act.put, List.setIfInBounds_toArray, List.set_cons_zero, List.set_cons_succ]
            refine wpAnyH_ready (rs := [10]) (by kernel_rfl) (by simp) ?_
            refine AllReadyH.cons (o := ⟨some 61, _, _, _, _, _⟩) rfl (fun K hK => ?_) AllReadyH.nil
            go_simp
            refine (ref_Ints _ _ _ _ _ h8 h9 (by simp) (by simp)).mono ?_
            rintro e wx ⟨rfl, hBx⟩
            rw [show decide (([1, 2, 1, 0] : List Int) = [1, 2, 1, 0]) = true from rfl]
            clear h8 h9
            replace hC := below_step hC hBx
            clear hBx
            go_wp2_with fail
            refine hK.out _ _ ?_ (fun hHeldX => ?_)
            · exact BX.out _ hC
            clear hK K hHeld
            rename _ => hHeld
            try simp only [Act.put, List.setIfInBounds_toArray, List.set_cons_zero, List.set_cons_succ]
            revert hHeld
            revert hC
            revert wx
            revert v9
            revert v8
            exact TAIL
        · go_simp
          try replace h8 := h8.below (new_below _ (.cells #[.int .i64 1, .int .i64 2, .int .i64 1, .int .i64 0] 3))
          obtain ⟨v9, e9, h9, hC9⟩ := alloc4 hC 1 2 1 0
          replace hC := hC9
          clear hC9
          try simp only [World.size_alloc] at e9
          first | rw [e9] | (replace e9 : Value.slice (some ⟨W0.heap.size, 0, none⟩) 4 4 = v9 := e9; rw [e9])
          clear e9
          try replace hC : Below W0.heap.size W0 (W0.alloc (.cells #[.int .i64 1, .int .i64 2, .int .i64 1, .int .i64 0] 3)).drew := hC
          try replace h9 : NumsIn (W0.alloc (.cells #[.int .i64 1, .int .i64 2, .int .i64 1, .int .i64 0] 3)).drew v9 [1, 2, 1, 0] := h9
          refine hK.out _ _ ?_ (fun hHeldX => ?_)
          · exact BX.out _ hC
          clear hK K hHeld
          rename _ => hHeld
          try simp only [Act.put, List.setIfInBounds_toArray, List.set_cons_zero, List.set_cons_succ]
          refine wpAnyH_ready (rs := [3]) (by kernel_rfl) (by simp) ?_
          refine AllReadyH.cons (o := ⟨some 54, _, _, _, _, _⟩) rfl (fun K hK => ?_) AllReadyH.nil
          go_simp
          refine (ZB.out _ hC).mono ?_
          rintro e wx ⟨rfl, rfl⟩
          go_wp2_with fail
          refine hK.out _ _ ?_ (fun hHeldX => ?_)
          · exact BX.out _ hC
          clear hK K hHeld
          rename _ => hHeld
          try simp only [Act.put, List.setIfInBounds_toArray, List.set_cons_zero, List.set_cons_succ]
          refine wpAnyH_ready (rs := [5]) (by kernel_rfl) (by simp) ?_
          refine AllReadyH.cons (o := ⟨some 56, _, _, _, _, _⟩) rfl (fun K hK => ?_) AllReadyH.nil
          go_simp
          refine (ZC.out _ hC).mono ?_
          rintro e wx ⟨rfl, rfl⟩
          go_wp2_with fail
          refine hK.out _ _ ?_ (fun hHeldX => ?_)
          · exact BX.out _ hC
          clear hK K hHeld
          rename _ => hHeld
          try simp only [Act.put, List.setIfInBounds_toArray, List.set_cons_zero, List.set_cons_succ]
          refine wpAnyH_ready (rs := [7]) (by kernel_rfl) (by simp) ?_
          refine AllReadyH.cons (o := ⟨some 58, _, _, _, _, _⟩) rfl (fun K hK => ?_) AllReadyH.nil
          go_simp
          refine (set_Len _ [] _ (HS.out.below hC)).mono ?_
          rintro e wx ⟨rfl, hBx⟩
          rw [show ((([] : List Int).length : Nat) : Int) = 0 from rfl]
          replace hC := below_step hC hBx
          try replace h8 := h8.below hBx
          try replace h9 := h9.below hBx
          go_wp2_with fail
          refine hK.out _ _ ?_ (fun hHeldX => ?_)
          · exact BX.out _ hC
          clear hK K hHeld
          rename _ => hHeld
          try simp only [Act.put, List.setIfInBounds_toArray, List.set_cons_zero, List.set_cons_succ]
          refine wpAnyH_ready (rs := [8]) (by kernel_rfl) (by simp) ?_
          refine AllReadyH.cons (o := ⟨some 59, _, _, _, _, _⟩) rfl (fun K hK => ?_) AllReadyH.nil
          go_simp
          try replace h9 := h9.below (new_below _ (.cells #[.int .i64 1, .int .i64 2, .int .i64 1, .int .i64 0] 3))
          obtain ⟨v8, e8, h8, hC9⟩ := alloc4 hC 1 2 1 0
          replace hC := hC9
          clear hC9
          try simp only [World.size_alloc] at e8
          first | rw [e8] | (replace e8 : Value.slice (some ⟨W0.heap.size, 0, none⟩) 4 4 = v8 := e8; rw [e8])
          clear e8
          try replace hC : Below W0.heap.size W0 (W0.alloc (.cells #[.int .i64 1, .int .i64 2, .int .i64 1, .int .i64 0] 3)).drew := hC
          try replace h8 : NumsIn (W0.alloc (.cells #[.int .i64 1, .int .i64 2, .int .i64 1, .int .i64 0] 3)).drew v8 [1, 2, 1, 0] := h8
          refine hK.out _ _ ?_ (fun hHeldX => ?_)
          · exact BX.out _ hC
          clear hK K hHeld
          rename _ => hHeld
          try simp only [Act.put, List.setIfInBounds_toArray, List.set_cons_zero, List.set_cons_succ]
          refine wpAnyH_ready (rs := [10]) (by kernel_rfl) (by simp) ?_
          refine AllReadyH.cons (o := ⟨some 61, _, _, _, _, _⟩) rfl (fun K hK => ?_) AllReadyH.nil
          go_simp
          refine (ref_Ints _ _ _ _ _ h8 h9 (by simp) (by simp)).mono ?_
          rintro e wx ⟨rfl, hBx⟩
          rw [show decide (([1, 2, 1, 0] : List Int) = [1, 2, 1, 0]) = true from rfl]
          clear h8 h9
          replace hC := below_step hC hBx
          clear hBx
          go_wp2_with fail
          refine hK.out _ _ ?_ (fun hHeldX => ?_)
          · exact BX.out _ hC
          clear hK K hHeld
          rename _ => hHeld
          try simp only [Act.put, List.setIfInBounds_toArray, List.set_cons_zero, List.set_cons_succ]
          revert hHeld
          revert hC
          revert wx
          revert v9
          revert v8
          exact TAIL
      · go_simp
        try replace h8 := h8.below (new_below _ (.cells #[.int .i64 1, .int .i64 2, .int .i64 1, .int .i64 0] 3))
        obtain ⟨v9, e9, h9, hC9⟩ := alloc4 hC 1 2 1 0
        replace hC := hC9
        clear hC9
        try simp only [World.size_alloc] at e9
        first | rw [e9] | (replace e9 : Value.slice (some ⟨W0.heap.size, 0, none⟩) 4 4 = v9 := e9; rw [e9])
        clear e9
        try replace hC : Below W0.heap.size W0 (W0.alloc (.cells #[.int .i64 1, .int .i64 2, .int .i64 1, .int .i64 0] 3)).drew := hC
        try replace h9 : NumsIn (W0.alloc (.cells #[.int .i64 1, .int .i64 2, .int .i64 1, .int .i64 0] 3)).drew v9 [1, 2, 1, 0] := h9
        refine hK.out _ _ ?_ (fun hHeldX => ?_)
        · exact BX.out _ hC
        clear hK K hHeld
        rename _ => hHeld
        try simp only [Act.put, List.setIfInBounds_toArray, List.set_cons_zero, List.set_cons_succ]
        refine wpAnyH_ready (rs := [1]) (by kernel_rfl) (by simp) ?_
        refine AllReadyH.cons (o := ⟨some 52, _, _, _, _, _⟩) rfl (fun K hK => ?_) AllReadyH.nil
        go_simp
        refine (ZA.out _ hC).mono ?_
        rintro e wx ⟨rfl, rfl⟩
        go_wp2_with fail
        refine hK.out _ _ ?_ (fun hHeldX => ?_)
        · exact BX.out _ hC
        clear hK K hHeld
        rename _ => hHeld
        try simp only [Act.put, List.setIfInBounds_toArray, List.set_cons_zero, List.set_cons_succ]
        refine wpAnyH_ready (rs := [3]) (by kernel_rfl) (by simp) ?_
        refine AllReadyH.cons (o := ⟨some 54, _, _, _, _, _⟩) rfl (fun K hK => ?_) AllReadyH.nil
        go_simp
        refine (ZB.out _ hC).mono ?_
        rintro e wx ⟨rfl, rfl⟩
        go_wp2_with fail
        refine hK.out _ _ ?_ (fun hHeldX => ?_)
        · exact BX.out _ hC
        clear hK K hHeld
        rename _ => hHeld
        try simp only [Act.put, List.setIfInBounds_toArray, List.set_cons_zero, List.set_cons_succ]
        refine wpAnyH_ready (rs := [5]) (by kernel_rfl) (by simp) ?_
        refine AllReadyH.cons (o := ⟨some 56, _, _, _, _, _⟩) rfl (fun K hK => ?_) AllReadyH.nil
        go_simp
        refine (ZC.out _ hC).mono ?_
        rintro e wx ⟨rfl, rfl⟩
        go_wp2_with fail
        refine hK.out _ _ ?_ (fun hHeldX => ?_)
        · exact BX.out _ hC
        clear hK K hHeld
        rename _ => hHeld
        try simp only [Act.put, List.setIfInBounds_toArray, List.set_cons_zero, List.set_cons_succ]
        refine wpAnyH_ready (rs := [7]) (by kernel_rfl) (by simp) ?_
        refine AllReadyH.cons (o := ⟨some 58, _, _, _, _, _⟩) rfl (fun K hK => ?_) AllReadyH.nil
        go_simp
        refine (set_Len _ [] _ (HS.out.below hC)).mono ?_
        rintro e wx ⟨rfl, hBx⟩
        rw [show ((([] : List Int).length : Nat) : Int) = 0 from rfl]
        replace hC := below_step hC hBx
        try replace h8 := h8.below hBx
        try replace h9 := h9.below hBx
        go_wp2_with fail
        refine hK.out _ _ ?_ (fun hHeldX => ?_)
        · exact BX.out _ hC
        clear hK K hHeld
        rename _ => hHeld
        try simp only [Act.put, List.setIfInBounds_toArray, List.set_cons_zero, List.set_cons_succ]
        refine wpAnyH_ready (rs := [8]) (by kernel_rfl) (by simp) ?_
        refine AllReadyH.cons (o := ⟨some 59, _, _, _, _, _⟩) rfl (fun K hK => ?_) AllReadyH.nil
        go_simp
        try replace h9 := h9.below (new_below _ (.cells #[.int .i64 1, .int .i64 2, .int .i64 1, .int .i64 0] 3))
        obtain ⟨v8, e8, h8, hC9⟩ := alloc4 hC 1 2 1 0
        replace hC := hC9
        clear hC9
        try simp only [World.size_alloc] at e8
        first | rw [e8] | (replace e8 : Value.slice (some ⟨W0.heap.size, 0, none⟩) 4 4 = v8 := e8; rw [e8])
        clear e8
        try replace hC : Below W0.heap.size W0 (W0.alloc (.cells #[.int .i64 1, .int .i64 2, .int .i64 1, .int .i64 0] 3)).drew := hC
        try replace h8 : NumsIn (W0.alloc (.cells #[.int .i64 1, .int .i64 2, .int .i64 1, .int .i64 0] 3)).drew v8 [1, 2, 1, 0] := h8
        refine hK.out _ _ ?_ (fun hHeldX => ?_)
        · exact BX.out _ hC
        clear hK K hHeld
        rename _ => hHeld
        try simp only [Act.put, List.setIfInBounds_toArray, List.set_cons_zero, List.set_cons_succ]
        refine wpAnyH_ready (rs := [10]) (by kernel_rfl) (by simp) ?_
        refine AllReadyH.cons (o := ⟨some 61, _, _, _, _, _⟩) rfl (fun K hK => ?_) AllReadyH.nil
        go_simp
        refine (ref_Ints _ _ _ _ _ h8 h9 (by simp) (by simp)).mono ?_
        rintro e wx ⟨rfl, hBx⟩
        rw [show decide (([1, 2, 1, 0] : List Int) = [1, 2, 1, 0]) = true from rfl]
        clear h8 h9
        replace hC := below_step hC hBx
        clear hBx
        go_wp2_with fail
        refine hK.out _ _ ?_ (fun hHeldX => ?_)
        · exact BX.out _ hC
        clear hK K hHeld
        rename _ => hHeld
        try simp only [Act.put, List.setIfInBounds_toArray, List.set_cons_zero, List.set_cons_succ]
        revert hHeld
        revert hC
        revert wx
        revert v9
        revert v8
        exact TAIL
    · intro v8 v9 wx hC hHeld
      refine wpAnyH_take (i := 11) (oi := ⟨some 62, _, _, _, _, _⟩) (v := ?_) rfl (by kernel_rfl) (by kernel_rfl) (by kernel_rfl) (fun _ _ _ h => h) (Or.inl ⟨by rfl, ?_⟩) (by assumption) ?_
      rotate_left
      · (intro w hSw; (try dsimp only at hSw); go_simp; try with_reducible rfl)
      try simp only [Act.put, List.setIfInBounds_toArray, List.set_cons_zero, List.set_cons_succ]
      refine wpAnyH_take (i := 12) (oi := ⟨some 63, _, _, _, _, _⟩) (v := ?_) rfl (by kernel_rfl) (by kernel_rfl) (by kernel_rfl) (fun _ _ _ h => h) (Or.inl ⟨by rfl, ?_⟩) (by assumption) ?_
      rotate_left
      · (intro w hSw; (try dsimp only at hSw); go_simp; try with_reducible rfl)
      try simp only [Act.put, List.setIfInBounds_toArray, List.set_cons_zero, List.set_cons_succ]
      refine wpAnyH_ready (rs := [13]) (by kernel_rfl) (by simp) ?_
      refine AllReadyH.cons (o := ⟨some 64, _, _, _, _, _⟩) rfl (fun K hK => ?_) AllReadyH.nil
      go_simp
      refine (nd_Bare _ _ _ _ _ (HC.out.below hC) true (by simp)).mono ?_
      rintro e wx ⟨rfl, hBx⟩
      replace hC := below_step hC hBx
      go_wp2_with fail
      refine hK.out _ _ ?_ (fun hHeldX => ?_)
      · exact BX.out _ hC
      clear hK K hHeld
      rename _ => hHeld
      try simp only [Act.put, List.setIfInBounds_toArray, List.set_cons_zero, List.set_cons_succ]
      refine wpAnyH_take (i := 14) (oi := ⟨some 65, _, _, _, _, _⟩) (v := ?_) rfl (by kernel_rfl) (by kernel_rfl) (by kernel_rfl) (fun _ _ _ h => h) (Or.inl ⟨by rfl, ?_⟩) (by assumption) ?_
      rotate_left
      · (intro w hSw; (try dsimp only at hSw); go_simp; try with_reducible rfl)
      try simp only [Act.put, List.setIfInBounds_toArray, List.set_cons_zero, List.set_cons_succ]
      refine wpAnyH_take (i := 15) (oi := ⟨some 66, _, _, _, _, _⟩) (v := ?_) rfl (by kernel_rfl) (by kernel_rfl) (by kernel_rfl) (fun _ _ _ h => h) (Or.inl ⟨by rfl, ?_⟩) (by assumption) ?_
      rotate_left
      · (intro w hSw; (try dsimp only at hSw); go_simp; try with_reducible rfl)
      try simp only [Act.put, List.setIfInBounds_toArray, List.set_cons_zero, List.set_cons_succ]
      refine wpAnyH_take (i := 16) (oi := ⟨some 67, _, _, _, _, _⟩) (v := ?_) rfl (by kernel_rfl) (by kernel_rfl) (by kernel_rfl) (fun _ _ _ h => h) (Or.inl ⟨by rfl, ?_⟩) (by assumption) ?_
      rotate_left
      · (intro w hSw; (try dsimp only at hSw); go_simp; try with_reducible rfl)
      try simp only [Act.put, List.setIfInBounds_toArray, List.set_cons_zero, List.set_cons_succ]
      refine wpAnyH_take (i := 17) (oi := ⟨some 68, _, _, _, _, _⟩) (v := ?_) rfl (by kernel_rfl) (by kernel_rfl) (by kernel_rfl) (fun _ _ _ h => h) (Or.inl ⟨by rfl, ?_⟩) (by assumption) ?_
      rotate_left
      · (intro w hSw; (try dsimp only at hSw); go_simp; try with_reducible rfl)
      try simp only [Act.put, List.setIfInBounds_toArray, List.set_cons_zero, List.set_cons_succ]
      refine wpAnyH_ready (rs := [18]) (by kernel_rfl) (by simp) ?_
      refine AllReadyH.cons (o := ⟨some 69, _, _, _, _, _⟩) rfl (fun K hK => ?_) AllReadyH.nil
      go_simp
      refine (nd_WithoutSub _ _ _ _ x _ (fun _ _ h => h) (HA.out.below hC) (by simp [withZ])).mono ?_
      rintro e wx ⟨be, rfl, hn, hBx⟩
      have HE := Lib.hid hn.pis
      replace hC := below_step hC hBx
      clear hn
      go_wp2_with fail
      refine hK.out _ _ ?_ (fun hHeldX => ?_)
      · exact BX.out _ hC
      clear hK K hHeld
      rename _ => hHeld
      try simp only [Act.put, List.setIfInBounds_toArray, List.set_cons_zero, List.set_cons_succ]
      refine wpAnyH_ready (rs := [19]) (by kernel_rfl) (by simp) ?_
      refine AllReadyH.cons (o := ⟨some 70, _, _, _, _, _⟩) rfl (fun K hK => ?_) AllReadyH.nil
      go_simp
      refine (nd_Bare _ _ _ _ _ HE.out true (by simp [withZ, woZ])).mono ?_
      rintro e wx ⟨rfl, hBx⟩
      replace hC := below_step hC hBx
      go_wp2_with fail
      refine hK.out _ _ ?_ (fun hHeldX => ?_)
      · exact BX.out _ hC
      clear hK K hHeld
      rename _ => hHeld
      try simp only [Act.put, List.setIfInBounds_toArray, List.set_cons_zero, List.set_cons_succ]
      refine wpAnyH_take (i := 20) (oi := ⟨some 71, _, _, _, _, _⟩) (v := ?_) rfl (by kernel_rfl) (by kernel_rfl) (by kernel_rfl) (fun _ _ _ h => h) (Or.inl ⟨by rfl, ?_⟩) (by assumption) ?_
      rotate_left
      · (intro w hSw; (try dsimp only at hSw); go_simp; try with_reducible rfl)
      try simp only [Act.put, List.setIfInBounds_toArray, List.set_cons_zero, List.set_cons_succ]
      refine wpAnyH_take (i := 21) (oi := ⟨some 72, _, _, _, _, _⟩) (v := ?_) rfl (by kernel_rfl) (by kernel_rfl) (by kernel_rfl) (fun _ _ _ h => h) (Or.inl ⟨by rfl, ?_⟩) (by assumption) ?_
      rotate_left
      · (intro w hSw; (try dsimp only at hSw); go_simp; try with_reducible rfl)
      try simp only [Act.put, List.setIfInBounds_toArray, List.set_cons_zero, List.set_cons_succ]
      refine wpAnyH_take (i := 22) (oi := ⟨some 73, _, _, _, _, _⟩) (v := ?_) rfl (by kernel_rfl) (by kernel_rfl) (by kernel_rfl) (fun _ _ _ h => h) (Or.inl ⟨by rfl, ?_⟩) (by assumption) ?_
      rotate_left
      · (intro w hSw; (try dsimp only at hSw); go_simp; try with_reducible rfl)
      try simp only [Act.put, List.setIfInBounds_toArray, List.set_cons_zero, List.set_cons_succ]
      refine wpAnyH_ready (rs := [23]) (by kernel_rfl) (by simp) ?_
      refine AllReadyH.cons (o := ⟨some 74, _, _, _, _, _⟩) rfl (fun K hK => ?_) AllReadyH.nil
      go_simp
      refine (nd_Bare _ _ _ _ _ (HB.out.below hC) false (by simp)).mono ?_
      rintro e wx ⟨rfl, hBx⟩
      replace hC := below_step hC hBx
      go_wp2_with fail
      refine hK.out _ _ ?_ (fun hHeldX => ?_)
      · exact BX.out _ hC
      clear hK K hHeld
      rename _ => hHeld
      try simp only [Act.put, List.setIfInBounds_toArray, List.set_cons_zero, List.set_cons_succ]
      refine wpAnyH_take (i := 24) (oi := ⟨some 75, _, _, _, _, _⟩) (v := ?_) rfl (by kernel_rfl) (by kernel_rfl) (by kernel_rfl) (fun _ _ _ h => h) (Or.inl ⟨by rfl, ?_⟩) (by assumption) ?_
      rotate_left
      · (intro w hSw; (try dsimp only at hSw); go_simp; try with_reducible rfl)
      try simp only [Act.put, List.setIfInBounds_toArray, List.set_cons_zero, List.set_cons_succ]
      refine wpAnyH_take (i := 25) (oi := ⟨some 76, _, _, _, _, _⟩) (v := ?_) rfl (by kernel_rfl) (by kernel_rfl) (by kernel_rfl) (fun _ _ _ h => h) (Or.inl ⟨by rfl, ?_⟩) (by assumption) ?_
      rotate_left
      · (intro w hSw; (try dsimp only at hSw); go_simp; try with_reducible rfl)
      try simp only [Act.put, List.setIfInBounds_toArray, List.set_cons_zero, List.set_cons_succ]
      refine wpAnyH_take (i := 26) (oi := ⟨some 77, _, _, _, _, _⟩) (v := ?_) rfl (by kernel_rfl) (by kernel_rfl) (by kernel_rfl) (fun _ _ _ h => h) (Or.inl ⟨by rfl, ?_⟩) (by assumption) ?_
      rotate_left
      · (intro w hSw; (try dsimp only at hSw); go_simp; try with_reducible rfl)
      try simp only [Act.put, List.setIfInBounds_toArray, List.set_cons_zero, List.set_cons_succ]
      refine wpAnyH_take (i := 27) (oi := ⟨some 78, _, _, _, _, _⟩) (v := ?_) rfl (by kernel_rfl) (by kernel_rfl) (by kernel_rfl) (fun _ _ _ h => h) (Or.inl ⟨by rfl, ?_⟩) (by assumption) ?_
      rotate_left
      · (intro w hSw; (try dsimp only at hSw); go_simp; try with_reducible rfl)
      try simp only [Act.put, List.setIfInBounds_toArray, List.set_cons_zero, List.set_cons_succ]
      refine wpAnyH_take (i := 28) (oi := ⟨some 79, _, _, _, _, _⟩) (v := ?_) rfl (by kernel_rfl) (by kernel_rfl) (by kernel_rfl) (fun _ _ _ h => h) (Or.inl ⟨by rfl, ?_⟩) (by assumption) ?_
      rotate_left
      · (intro w hSw; (try dsimp only at hSw); go_simp; try with_reducible rfl)
      try simp only [Act.put, List.setIfInBounds_toArray, List.set_cons_zero, List.set_cons_succ]
      refine wpAnyH_ready (rs := [29]) (by kernel_rfl) (by simp) ?_
      refine AllReadyH.cons (o := ⟨some 80, _, _, _, _, _⟩) rfl (fun K hK => ?_) AllReadyH.nil
      go_simp
      refine (nd_Kid _ _ _ _ k _ (HB.out.below hC) (by simp)).mono ?_
      rintro e wx ⟨rfl, hBx⟩
      rw [show kidV (getE k [(k, (bt : Int))]) = ptrV (bt : Int) by simp [getE, kidV]]
      replace hC := below_step hC hBx
      go_wp2_with fail
      refine hK.out _ _ ?_ (fun hHeldX => ?_)
      · exact BX.out _ hC
      clear hK K hHeld
      rename _ => hHeld
      try simp only [Act.put, List.setIfInBounds_toArray, List.set_cons_zero, List.set_cons_succ]
      refine wpAnyH_take (i := 30) (oi := ⟨some 81, _, _, _, _, _⟩) (v := ?_) rfl (by kernel_rfl) (by kernel_rfl) (by kernel_rfl) (fun _ _ _ h => h) (Or.inl ⟨by rfl, ?_⟩) (by assumption) ?_
      rotate_left
      · (intro w hSw; (try dsimp only at hSw); go_simp; try with_reducible rfl)
      try simp only [Act.put, List.setIfInBounds_toArray, List.set_cons_zero, List.set_cons_succ]
      refine wpAnyH_take (i := 31) (oi := ⟨some 82, _, _, _, _, _⟩) (v := ?_) rfl (by kernel_rfl) (by kernel_rfl) (by kernel_rfl) (fun _ _ _ h => h) (Or.inl ⟨by rfl, ?_⟩) (by assumption) ?_
      rotate_left
      · (intro w hSw; (try dsimp only at hSw); go_simp; try with_reducible rfl)
      try simp only [Act.put, List.setIfInBounds_toArray, List.set_cons_zero, List.set_cons_succ]
      refine wpAnyH_ready (rs := [32]) (by kernel_rfl) (by simp) ?_
      refine AllReadyH.cons (o := ⟨none, _, _, _, _, _⟩) rfl (fun K hK => ?_) AllReadyH.nil
      have cw := hw0.out _ hC
      have cf := hf0.out _ hC
      go_simp
      refine hK.out _ _ ?_ (fun hHeldX => ?_)
      · have hbx := BX.out _ hC; exact (World.cell?_setCell_far _ _ _ _ (by show w.heap.size ≠ x6.heap.size; omega)).trans hbx
      clear hK K hHeld
      rename _ => hHeld
      try simp only [Act.put, List.setIfInBounds_toArray, List.set_cons_zero, List.set_cons_succ]
      refine wpAnyH_done (by kernel_rfl) ?_ _
      refine hKx _ _ ?_
      gi_wp2
      obtain ⟨k2, k1, hbf⟩ := leaf12 C0.out (Nat.le_refl _) (by omega) BB0.out K0.out hC
      refine ⟨by simp, .inl ⟨_, _, rfl, run_takeDeferred k2, .bool true, ?_, rfl, hbf⟩⟩
      simp [results, Try.f4, go_sem, k1]

theorem none_long12 (x : Int) (s : ByteArray) (hs : 100 < s.size) (w : World) : Calls Try.prog 4 #[.int .i64 x, .string s] w fun e w' => e = .returned (.bool true) ∧ Below w.heap.size w w' := by
  have hB := new_below w
  go_enter Try.func4, Try.ntmps4
  go_wp2_with fail
  refine (awake12 _).mono ?_
  rintro e w1 ⟨rfl, hB1⟩
  have b1 : Blk 4 w1 w.heap.size [.bool false] := (Blk.new (W := w) (t := 4) (l := [.bool false])).below hB1 (by simp)
  have B1 := Lib.hid (below_step (hB _) hB1)
  have k1 := b1.at (o := 0) rfl
  have f1 := b1.frozen 0
  have B2 : Hid (∀ u, (w1.setCell ⟨w.heap.size, 0, none⟩ u).cell? ⟨w.heap.size, 0, none⟩ = some u) := Lib.hid fun u => (b1.set 0 u).at (o := 0) rfl
  clear hB1 b1 hB
  go_wp2
  refine bodyPost_ret (v := .bool true) (by simp [results, Try.f4, go_sem, B2.out]) rfl ⟨rfl, B1.out.setCell (p := ⟨w.heap.size, 0, none⟩) (Nat.le_refl _) _⟩
/-- Of every number and text. -/
theorem none_any12 (x : Int) (s : ByteArray) (w : World) : Calls Try.prog 4 #[.int .i64 x, .string s] w fun e w' => e = .returned (.bool true) ∧ Below w.heap.size w w' := by
  by_cases hs : s.size ≤ 100
  · exact none12 x s.data.toList (by simpa using hs) w
  · exact none_long12 x s (by omega) w

end Go.Proofs.Yteigkomefehpjaa
