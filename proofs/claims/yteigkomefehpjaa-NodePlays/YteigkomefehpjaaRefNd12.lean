/- Layer 12: the document's list of nodes (bellmanref12) in memory: Own, add, Bare. -/
import Derived.Test.YteigkomefehpjaaRefPut3
import Derived.Test.YteigkomefehpjaaNodeI12
import Derived.Test.YteigkomefehpjaaRows7
import Derived.Test.YteigkomefehpjaaStep
import Derived.Deep.RegionHeld3
import Derived.Deep.AppendLies
namespace Go.Proofs.Yteigkomefehpjaa
open Go.RowKit

/-- The three lists of a node. -/
abbrev Tri := Value × Value × Value
abbrev triC (c : Tri) : List Value := [c.1, c.2.1, c.2.2]
abbrev triA (c : Tri) : Value := .agg #[c.1, c.2.1, c.2.2]
abbrev triN : Tri := (.slice none 0 0, .slice none 0 0, .slice none 0 0)
/-- All three are slices. -/
def TriOk (c : Tri) : Prop := ∃ a1 n1 c1 a2 n2 c2 a3 n3 c3, c = (.slice a1 n1 c1, .slice a2 n2 c2, .slice a3 n3 c3)
theorem triN_ok : TriOk triN := ⟨_, _, _, _, _, _, _, _, _, rfl⟩
theorem tri_len (c : Tri) : (triC c).length = 3 := rfl

/-- The list lies at A, its row above lo. -/
structure RRow (w : World) (lo A : Nat) (v : Value) (C : List Tri) : Prop where
  box : Blk 28 w A [v]
  row : w.ownsRow lo 63 3 v C.length (C.flatMap triC)
  ok : ∀ c ∈ C, TriOk c
def RB (A : Nat) (v : Value) (k : Nat) : Prop := k = A ∨ v.ownBlock = some k
def RNew (m : Nat) (v v' : Value) : Prop := ∀ k, v'.ownBlock = some k → v.ownBlock = some k ∨ m ≤ k
section
variable {w w' : World} {lo A : Nat} {v v' : Value} {C : List Tri} {S : Nat → Prop}
theorem RRow.apart (h : RRow w lo A v C) {k : Nat} (hk : v.ownBlock = some k) : A ≠ k := blk_apart h.box h.row hk (by decide)
theorem RRow.lt (h : RRow w lo A v C) {k : Nat} (hk : RB A v k) : k < w.heap.size := by
  rcases hk with rfl | hk
  · exact h.box.lt
  · exact (h.row.lt k hk).2
theorem RRow.only (h : RRow w lo A v C) (ho : Only S w w') (hS : ∀ k, RB A v k → ¬ S k) : RRow w' lo A v C :=
  ⟨h.box.only ho (hS A (.inl rfl)), own_only h.row ho (fun k hk => hS k (.inr hk)), h.ok⟩
theorem RRow.below (h : RRow w lo A v C) (hb : Below w.heap.size w w') : RRow w' lo A v C := h.only (Only.of_below hb (fun _ => False)) (fun _ _ h => h)
theorem RRow.at (h : RRow w lo A v C) {k : Nat} {c : Tri} (hk : C[k]? = some c) : ∃ g cap, v = .slice (some ⟨g, 0, none⟩) C.length cap ∧ w.cell? ⟨g, k * 3, none⟩ = some c.1 ∧ w.cell? ⟨g, k * 3 + 1, none⟩ = some c.2.1 ∧ w.cell? ⟨g, k * 3 + 2, none⟩ = some c.2.2 := by
  have hlt : k < C.length := (List.getElem?_eq_some_iff.1 hk).1
  rcases h.row.2 with ⟨_, h0⟩ | ⟨g, cap, cur, hv, _⟩
  · omega
  · have hs := SliceK.of_own h.row
    rcases hs.2 with ⟨h1, _⟩ | ⟨g', off', cap', hv', _, _, hc⟩
    · rw [hv] at h1; cases h1
    · rw [hv] at hv'
      cases hv'
      refine ⟨g, cap, hv, ?_, ?_, ?_⟩
      · have := hc (k * 3 + 0) c.1 (flat_at tri_len hk rfl)
        simpa using this
      · have := hc (k * 3 + 1) c.2.1 (flat_at tri_len hk rfl)
        simpa using this
      · have := hc (k * 3 + 2) c.2.2 (flat_at tri_len hk rfl)
        simpa using this
theorem RRow.form (h : RRow w lo A v C) : ∃ a c, v = .slice a C.length c := own_form h.row
/-- Which node is asked for. -/
def ownT (C : List Tri) (k : Int) : Tri := if k < 0 then triN else (C[k.toNat]?).getD triN

theorem infoNd : (Try.prog.info? 63).map (fun i => (i.zero, i.size, i.bytes)) = some (some (.agg #[.slice none 0 0, .slice none 0 0, .slice none 0 0]), 3, 72) := by kernel_rfl

set_option maxRecDepth 100000 in
theorem ref_Own (h : RRow w lo A v C) (k : Int) : Calls Try.prog 24 #[.pointer (some ⟨A, 0, none⟩), .int .i64 k] w fun e w' => e = .returned (triA (ownT C k)) ∧ Below w.heap.size w w' := by
  obtain ⟨a0, c0, e0⟩ := h.form
  have hA := h.box.lt
  have d0 : ∀ o, (w.alloc o).cell? ⟨A, 0, none⟩ = some v := fun o => (h.box.alloc o).at (o := 0) rfl
  by_cases hk : k < 0
  · have e : ownT C k = triN := by simp [ownT, hk]
    rw [e]
    clear h e0 d0
    go_enter Try.func24, Try.ntmps24
    go_wp2
    refine bodyPost_ret (by simp [results, Try.f24, go_sem]) rfl ⟨rfl, new_below _ _⟩
  · by_cases hl : (C.length : Int) ≤ k
    · have e : ownT C k = triN := by
        rw [ownT, if_neg hk, List.getElem?_eq_none (by omega)]; rfl
      rw [e]
      rw [e0] at d0
      clear h e0
      go_enter Try.func24, Try.ntmps24
      go_wp2
      refine bodyPost_ret (by simp [results, Try.f24, go_sem]) rfl ⟨rfl, new_below _ _⟩
    · obtain ⟨j, rfl⟩ : ∃ j : Nat, k = (j : Int) := ⟨k.toNat, by omega⟩
      obtain ⟨c, hc⟩ : ∃ c, C[j]? = some c := ⟨_, List.getElem?_eq_getElem (by omega)⟩
      have e : ownT C (j : Int) = c := by simp [ownT, hk, hc]
      rw [e]
      obtain ⟨a1, n1, c1, a2, n2, c2, a3, n3, c3, rfl⟩ := h.ok c (List.mem_of_getElem? hc)
      obtain ⟨g, cap, hv, q1, q2, q3⟩ := h.at hc
      have hg : g < w.heap.size := h.lt (.inr (by rw [hv]; rfl))
      rw [hv] at d0
      have q1 : ∀ o, (w.alloc o).cell? ⟨g, j * 3, none⟩ = some (.slice a1 n1 c1) := fun o => (World.cell?_alloc_lt _ _ _ hg).trans q1
      have q2 : ∀ o, (w.alloc o).cell? ⟨g, j * 3 + 1, none⟩ = some (.slice a2 n2 c2) := fun o => (World.cell?_alloc_lt _ _ _ hg).trans q2
      have q3 : ∀ o, (w.alloc o).cell? ⟨g, j * 3 + 2, none⟩ = some (.slice a3 n3 c3) := fun o => (World.cell?_alloc_lt _ _ _ hg).trans q3
      clear h e0 hv e
      go_enter Try.func24, Try.ntmps24
      go_wp2
      refine bodyPost_ret (by simp [results, Try.f24, go_sem]) rfl ⟨rfl, new_below _ _⟩
theorem field_nd0 (x y z : Value) (w : World) : Sem.run Try.prog (Instr.field 63 (.agg #[x, y, z]) 0) w = .ok x w := by kernel_rfl
theorem field_nd1 (x y z : Value) (w : World) : Sem.run Try.prog (Instr.field 63 (.agg #[x, y, z]) 1) w = .ok (.agg #[y, z]) w := by kernel_rfl
theorem field_map0 (x y : Value) (w : World) : Sem.run Try.prog (Instr.field 61 (.agg #[x, y]) 0) w = .ok x w := by kernel_rfl
theorem ref_Bare (h : RRow w lo A v C) (k : Int) (a1 : Option Addr) (n1 c1 : Nat) (a2 : Option Addr) (n2 c2 : Nat) (a3 : Option Addr) (n3 c3 : Nat) (hk : ownT C k = (.slice a1 n1 c1, .slice a2 n2 c2, .slice a3 n3 c3)) (bare : Bool) (hb : bare = true ↔ n1 = 0 ∧ n2 = 0) :
    Calls Try.prog 31 #[.pointer (some ⟨A, 0, none⟩), .int .i64 k] w fun e w' => e = .returned (.bool bare) ∧ Below w.heap.size w w' := by
  have H := Lib.hid h
  have hf0 := field_nd0
  have hf1 := field_nd1
  have hf2 := field_map0
  have HO : Hid (∀ W, Below w.heap.size w W → Calls Try.prog 24 #[.pointer (some ⟨A, 0, none⟩), .int .i64 k] W fun e w' => e = .returned (.agg #[.slice a1 n1 c1, .slice a2 n2 c2, .slice a3 n3 c3]) ∧ Below W.heap.size W w') :=
    Lib.hid fun W hW => by have := ref_Own (h.below hW) k; rw [hk] at this; exact this
  clear h hk
  by_cases h1 : n1 = 0
  · by_cases h2 : n2 = 0
    · obtain rfl : bare = true := hb.2 ⟨h1, h2⟩
      subst h1 h2
      clear hb
      go_enter Try.func31, Try.ntmps31
      go_wp2_with fail
      refine (HO.out w (Below.refl _ _)).mono ?_
      rintro e w1 ⟨rfl, hB1⟩
      have B1 := Lib.hid hB1
      clear hB1
      go_wp2_with fail
      refine (HO.out w1 B1.out).mono ?_
      rintro e w2 ⟨rfl, hB2⟩
      have B2 := Lib.hid (below_step B1.out hB2)
      clear hB2
      go_wp2
      go_ret
      exact ⟨rfl, B2.out⟩
    · obtain rfl : bare = false := by
        cases hbb : bare
        · rfl
        · exact absurd (hb.1 hbb).2 h2
      subst h1
      have h3 : ((n2 : Int) == 0) = false := by simpa using h2
      clear hb
      go_enter Try.func31, Try.ntmps31
      go_wp2_with fail
      refine (HO.out w (Below.refl _ _)).mono ?_
      rintro e w1 ⟨rfl, hB1⟩
      have B1 := Lib.hid hB1
      clear hB1
      go_wp2_with fail
      refine (HO.out w1 B1.out).mono ?_
      rintro e w2 ⟨rfl, hB2⟩
      have B2 := Lib.hid (below_step B1.out hB2)
      clear hB2
      go_wp2
      go_ret
      exact ⟨rfl, B2.out⟩
  · obtain rfl : bare = false := by
      cases hbb : bare
      · rfl
      · exact absurd (hb.1 hbb).1 h1
    have h3 : ((n1 : Int) == 0) = false := by simpa using h1
    clear hb
    go_enter Try.func31, Try.ntmps31
    go_wp2_with fail
    refine (HO.out w (Below.refl _ _)).mono ?_
    rintro e w1 ⟨rfl, hB1⟩
    have B1 := Lib.hid hB1
    clear hB1
    go_wp2
    go_ret
    exact ⟨rfl, B1.out⟩
/-- Behind an append. -/
theorem RRow.grown {w5 : World} {ob : Obj} {g' cap' : Nat} {y : Tri} (h : RRow w lo A v C) (hy : TriOk y) (hgrow : (w.alloc ob).grownBy w5 v.ownBlock) (hlie : v.ownBlock = some g' ∨ g' = w.heap.size + 1)
    (hown : w5.ownsRow lo 63 3 (.slice (some ⟨g', 0, none⟩) (C.length + 1) cap') (C.length + 1) (C.flatMap triC ++ triC y)) :
    (w5.cell? ⟨A, 0, none⟩ = some v ∧ w5.frozen? ⟨A, 0, none⟩ = false) ∧ RRow (w5.setCell ⟨A, 0, none⟩ (.slice (some ⟨g', 0, none⟩) (C.length + 1) cap')) lo A (.slice (some ⟨g', 0, none⟩) (C.length + 1) cap') (C ++ [y]) ∧
    RNew w.heap.size v (.slice (some ⟨g', 0, none⟩) (C.length + 1) cap') ∧ Only (RB A v) w (w5.setCell ⟨A, 0, none⟩ (.slice (some ⟨g', 0, none⟩) (C.length + 1) cap')) := by
  have ho : Only (fun k => v.ownBlock = some k) w w5 := ((Only.refl (fun k => v.ownBlock = some k) w).alloc ob).trans (grown_only hgrow)
  have b5 := h.box.only ho (fun e => h.apart e rfl)
  have o6 := only_at w5 A 0 (.slice (some ⟨g', 0, none⟩) (C.length + 1) cap')
  refine ⟨⟨b5.at (o := 0) rfl, b5.frozen _⟩, ⟨b5.set 0 _, ?_, fun c hc => ?_⟩, fun k hk => ?_, ?_⟩
  · have := own_only hown o6 (fun k hk e => blk_apart b5 hown hk (by decide) e.symm)
    rw [List.length_append, List.flatMap_append]
    simpa using this
  · rcases List.mem_append.1 hc with hc | hc
    · exact h.ok c hc
    · obtain rfl : c = y := by simpa using hc
      exact hy
  · simp only [Value.ownBlock, Option.some.injEq] at hk
    subst hk
    exact hlie.imp id (fun e => by omega)
  · exact (ho.mono (fun k _ hk => (.inr hk : RB A v k))).step o6 (fun i hi e => .inl e)
set_option maxRecDepth 100000 in
set_option maxHeartbeats 2000000 in
theorem ref_add (h : RRow w lo A v C) (hlo : lo ≤ w.heap.size) (hbig : C.length ≤ 100000) (y : Tri) (hy : TriOk y) : Calls Try.prog 26 #[.pointer (some ⟨A, 0, none⟩), triA y] w fun e w' => e = .returned (.int .i64 (C.length : Int)) ∧
    ∃ v', RRow w' lo A v' (C ++ [y]) ∧ RNew w.heap.size v v' ∧ Only (RB A v) w w' := by
  obtain ⟨i0, hi0, hz0, hz1, hz2⟩ := info_at infoNd
  obtain ⟨a1, n1, c1, a2, n2, c2, a3, n3, c3, rfl⟩ := hy
  obtain ⟨a0, c0, e0⟩ := h.form
  obtain ⟨W, hW⟩ : ∃ W, W = w.alloc (.cells #[.slice a1 n1 c1, .slice a2 n2 c2, .slice a3 n3 c3] 63) := ⟨_, rfl⟩
  have hB : Below w.heap.size w W := by rw [hW]; exact new_below _ _
  have H := Lib.hid (h.below hB)
  have hWz : W.heap.size = w.heap.size + 1 := by rw [hW]; simp
  have X : Hid (Blk 63 W w.heap.size [.slice a1 n1 c1, .slice a2 n2 c2, .slice a3 n3 c3]) := Lib.hid (by rw [hW]; exact Blk.new)
  have HB := Lib.hid hB
  have EV := Lib.hid e0
  have HW := Lib.hid hWz
  have HH := Lib.hid h
  clear h hB hWz e0
  go_enter Try.func26, Try.ntmps26
  go_upto_region 1 with fail
  rw [← hW]
  clear hW
  have HD : Hid (RRow W.drew lo A v C) := Lib.hid (H.out.below ((Below.refl _ _).drew))
  have HC := HD.out
  have HX : Blk 63 W.drew w.heap.size [.slice a1 n1 c1, .slice a2 n2 c2, .slice a3 n3 c3] := X.out
  have hr : W.drew.ownsRow lo 63 3 (.slice a0 C.length c0) C.length (C.flatMap triC) := by have := HD.out.row; rw [EV.out] at this; exact this
  have HR := Lib.hid hr
  have HN : Hid (∀ j u, [Value.slice a1 n1 c1, .slice a2 n2 c2, .slice a3 n3 c3][j]? = some u → (W.drew.alloc (.cells #[.slice a1 n1 c1, .slice a2 n2 c2, .slice a3 n3 c3] 63)).cell? ((⟨W.heap.size, 0, none⟩ : Addr).add j) = some u) :=
    Lib.hid (World.news_of_block (Blk.new (W := W.drew) (t := 63) (l := [.slice a1 n1 c1, .slice a2 n2 c2, .slice a3 n3 c3])))
  clear hr
  refine wp_region_noPanic ?_
  refine wp_region_held_drew (S := (fun w' => w'.cell? ⟨w.heap.size, 0, none⟩ = some (.slice a1 n1 c1) ∧ w'.cell? ⟨w.heap.size, 1, none⟩ = some (.slice a2 n2 c2) ∧ w'.cell? ⟨w.heap.size, 2, none⟩ = some (.slice a3 n3 c3))) (by kernel_rfl) ?_ (fun hHeld => ?_)
  · exact ⟨HX.at (o := 0) rfl, HX.at (o := 1) rfl, HX.at (o := 2) rfl⟩
  refine wpAnyH_take (i := 0) (oi := ⟨some 5, _, _, _, _, _⟩) (v := ?_) rfl (by kernel_rfl) (by kernel_rfl) (by kernel_rfl) (fun _ _ _ h => h) (Or.inl ⟨by rfl, ?_⟩) (by assumption) ?_
  rotate_left
  · (intro w hSw; (try dsimp only at hSw); go_simp; try with_reducible rfl)
  try simp only [Act.put, List.setIfInBounds_toArray, List.set_cons_zero, List.set_cons_succ]
  refine wpAnyH_take (i := 1) (oi := ⟨some 6, _, _, _, _, _⟩) (v := ?_) rfl (by kernel_rfl) (by kernel_rfl) (by kernel_rfl) (fun _ _ _ h => h) (Or.inl ⟨by rfl, ?_⟩) (by assumption) ?_
  rotate_left
  · (intro w hSw; (try dsimp only at hSw); go_simp; try with_reducible rfl)
  try simp only [Act.put, List.setIfInBounds_toArray, List.set_cons_zero, List.set_cons_succ]
  refine wpAnyH_take (i := 2) (oi := ⟨some 7, _, _, _, _, _⟩) (v := ?_) rfl (by kernel_rfl) (by kernel_rfl) (by kernel_rfl) (fun _ _ _ h => h) (Or.inl ⟨by rfl, ?_⟩) (by assumption) ?_
  rotate_left
  · (intro w hSw; (try dsimp only at hSw); go_simp; try with_reducible rfl)
  try simp only [Act.put, List.setIfInBounds_toArray, List.set_cons_zero, List.set_cons_succ]
  refine wpAnyH_take (i := 3) (oi := ⟨some 8, _, _, _, _, _⟩) (v := ?_) rfl (by kernel_rfl) (by kernel_rfl) (by kernel_rfl) (fun _ _ _ h => h) (Or.inl ⟨by rfl, ?_⟩) (by assumption) ?_
  rotate_left
  · (intro w hSw; (try dsimp only at hSw); go_simp; try with_reducible rfl)
  try simp only [Act.put, List.setIfInBounds_toArray, List.set_cons_zero, List.set_cons_succ]
  refine wpAnyH_take (i := 5) (oi := ⟨some 10, _, _, _, _, _⟩) (v := ?_) rfl (by kernel_rfl) (by kernel_rfl) (by kernel_rfl) (fun _ _ _ h => h) (Or.inl ⟨by rfl, ?_⟩) (by assumption) ?_
  rotate_left
  · (intro w hSw; (try dsimp only at hSw); go_simp; try with_reducible rfl)
  try simp only [Act.put, List.setIfInBounds_toArray, List.set_cons_zero, List.set_cons_succ]
  refine wpAnyH_ready (rs := [4, 6]) (by kernel_rfl) (by simp) ?_
  refine AllReadyH.cons (o := ⟨some 9, _, _, _, _, _⟩) rfl (fun K hK => ?_) (AllReadyH.cons (o := ⟨some 11, _, _, _, _, _⟩) rfl (fun K hK => ?_) AllReadyH.nil)
  · have cA := HC.box.at (o := 0) rfl
    rw [EV.out] at cA
    go_simp
    clear cA
    refine hK.out _ _ ?_ (fun hHeldX => ?_)
    · exact ⟨HX.at (o := 0) rfl, HX.at (o := 1) rfl, HX.at (o := 2) rfl⟩
    clear hK K hHeld
    rename _ => hHeld
    try simp only [Act.put, List.setIfInBounds_toArray, List.set_cons_zero, List.set_cons_succ]
    refine wpAnyH_ready (rs := [6]) (by kernel_rfl) (by simp) ?_
    refine AllReadyH.cons (o := ⟨some 11, _, _, _, _, _⟩) rfl (fun K hK => ?_) AllReadyH.nil
    go_simp
    replace HC : RRow (W.alloc (.cells #[.slice a1 n1 c1, .slice a2 n2 c2, .slice a3 n3 c3] 63)).drew lo A v C := HC.below (new_below _ (.cells #[.slice a1 n1 c1, .slice a2 n2 c2, .slice a3 n3 c3] 63))
    replace HX : Blk 63 (W.alloc (.cells #[.slice a1 n1 c1, .slice a2 n2 c2, .slice a3 n3 c3] 63)).drew w.heap.size [.slice a1 n1 c1, .slice a2 n2 c2, .slice a3 n3 c3] := HX.alloc (.cells #[.slice a1 n1 c1, .slice a2 n2 c2, .slice a3 n3 c3] 63)
    refine hK.out _ _ ?_ (fun hHeldX => ?_)
    · exact ⟨HX.at (o := 0) rfl, HX.at (o := 1) rfl, HX.at (o := 2) rfl⟩
    clear hK K hHeld
    rename _ => hHeld
    try simp only [Act.put, List.setIfInBounds_toArray, List.set_cons_zero, List.set_cons_succ]
    refine wpAnyH_ready (rs := [7]) (by kernel_rfl) (by simp) ?_
    refine AllReadyH.cons (o := ⟨some 12, _, _, _, _, _⟩) rfl (fun K hK => ?_) AllReadyH.nil
    refine step_append_lies _ rfl _ _ 26 rfl lo 63 i0 (.agg #[.slice none 0 0, .slice none 0 0, .slice none 0 0]) 3 72 Try.underlying26 hi0 hz0 hz1 hz2 rfl (by decide) _ _ _ rfl (HR.out.alloc (.cells #[.slice a1 n1 c1, .slice a2 n2 c2, .slice a3 n3 c3] 63)) ⟨W.heap.size, 0, none⟩ 1 1 [.slice a1 n1 c1, .slice a2 n2 c2, .slice a3 n3 c3] rfl rfl HN.out (by simp [Value.oneCell']) (by decide) (by simp only [maxLen]; omega) (by omega) (by have := HW.out; show lo ≤ (W.heap.push _).size; simp; omega) (W.heap.size + 1) (by show (W.heap.push _).size = _; simp) ?_
    intro g' cap' w9 hown' hgrow hlie hlt'
    rw [← EV.out] at hgrow hlie
    obtain ⟨⟨k9, f9⟩, hend⟩ := HD.out.grown (y := (.slice a1 n1 c1, .slice a2 n2 c2, .slice a3 n3 c3)) ⟨_, _, _, _, _, _, _, _, _, rfl⟩ hgrow hlie hown'
    replace HX := HX.only (grown_only hgrow) (fun e => by have := HH.out.lt (.inr e); omega)
    have HF := Lib.hid hend
    clear hown' hgrow hlie hlt' hend HC
    refine hK.out _ _ ?_ (fun hHeldX => ?_)
    · exact ⟨HX.at (o := 0) rfl, HX.at (o := 1) rfl, HX.at (o := 2) rfl⟩
    clear hK K hHeld
    rename _ => hHeld
    try simp only [Act.put, List.setIfInBounds_toArray, List.set_cons_zero, List.set_cons_succ]
    refine wpAnyH_take (i := 8) (oi := ⟨some 13, _, _, _, _, _⟩) (v := ?_) rfl (by kernel_rfl) (by kernel_rfl) (by kernel_rfl) (fun _ _ _ h => h) (Or.inl ⟨by rfl, ?_⟩) (by assumption) ?_
    rotate_left
    · (intro w hSw; (try dsimp only at hSw); go_simp; try with_reducible rfl)
    try simp only [Act.put, List.setIfInBounds_toArray, List.set_cons_zero, List.set_cons_succ]
    refine wpAnyH_take (i := 9) (oi := ⟨some 14, _, _, _, _, _⟩) (v := ?_) rfl (by kernel_rfl) (by kernel_rfl) (by kernel_rfl) (fun _ _ _ h => h) (Or.inl ⟨by rfl, ?_⟩) (by assumption) ?_
    rotate_left
    · (intro w hSw; (try dsimp only at hSw); go_simp; try with_reducible rfl)
    try simp only [Act.put, List.setIfInBounds_toArray, List.set_cons_zero, List.set_cons_succ]
    refine wpAnyH_ready (rs := [10]) (by kernel_rfl) (by simp) ?_
    refine AllReadyH.cons (o := ⟨none, _, _, _, _, _⟩) rfl (fun K hK => ?_) AllReadyH.nil
    go_simp
    replace HX := HX.only (only_at w9 A 0 (.slice (some ⟨g', 0, none⟩) (C.length + 1) cap')) (fun e => by have := HH.out.box.lt; omega)
    refine hK.out _ _ ?_ (fun hHeldX => ?_)
    · exact ⟨HX.at (o := 0) rfl, HX.at (o := 1) rfl, HX.at (o := 2) rfl⟩
    clear hK K hHeld
    rename _ => hHeld
    try simp only [Act.put, List.setIfInBounds_toArray, List.set_cons_zero, List.set_cons_succ]
    refine wpAnyH_done (by kernel_rfl) ?_ _
    refine NoPanic.normal ?_
    obtain ⟨h5, n5, o5⟩ := HF.out
    have c5 := h5.box.at (o := 0) rfl
    have hE := Lib.hid (And.intro h5 (And.intro n5 o5))
    clear h5 n5 o5 HX k9 f9 HF
    go_wp2
    go_ret
    exact ⟨by first | rfl | (simp; rfl) | simp, _, hE.out.1, fun k hk => (hE.out.2.1 k hk).imp id (fun e => Nat.le_trans HB.out.size e), (Only.of_below HB.out.drew _).trans hE.out.2.2⟩
  · go_simp
    replace HC : RRow (W.alloc (.cells #[.slice a1 n1 c1, .slice a2 n2 c2, .slice a3 n3 c3] 63)).drew lo A v C := HC.below (new_below _ (.cells #[.slice a1 n1 c1, .slice a2 n2 c2, .slice a3 n3 c3] 63))
    replace HX : Blk 63 (W.alloc (.cells #[.slice a1 n1 c1, .slice a2 n2 c2, .slice a3 n3 c3] 63)).drew w.heap.size [.slice a1 n1 c1, .slice a2 n2 c2, .slice a3 n3 c3] := HX.alloc (.cells #[.slice a1 n1 c1, .slice a2 n2 c2, .slice a3 n3 c3] 63)
    refine hK.out _ _ ?_ (fun hHeldX => ?_)
    · exact ⟨HX.at (o := 0) rfl, HX.at (o := 1) rfl, HX.at (o := 2) rfl⟩
    clear hK K hHeld
    rename _ => hHeld
    try simp only [Act.put, List.setIfInBounds_toArray, List.set_cons_zero, List.set_cons_succ]
    refine wpAnyH_ready (rs := [4]) (by kernel_rfl) (by simp) ?_
    refine AllReadyH.cons (o := ⟨some 9, _, _, _, _, _⟩) rfl (fun K hK => ?_) AllReadyH.nil
    have cA := HC.box.at (o := 0) rfl
    rw [EV.out] at cA
    go_simp
    clear cA
    refine hK.out _ _ ?_ (fun hHeldX => ?_)
    · exact ⟨HX.at (o := 0) rfl, HX.at (o := 1) rfl, HX.at (o := 2) rfl⟩
    clear hK K hHeld
    rename _ => hHeld
    try simp only [Act.put, List.setIfInBounds_toArray, List.set_cons_zero, List.set_cons_succ]
    refine wpAnyH_ready (rs := [7]) (by kernel_rfl) (by simp) ?_
    refine AllReadyH.cons (o := ⟨some 12, _, _, _, _, _⟩) rfl (fun K hK => ?_) AllReadyH.nil
    refine step_append_lies _ rfl _ _ 26 rfl lo 63 i0 (.agg #[.slice none 0 0, .slice none 0 0, .slice none 0 0]) 3 72 Try.underlying26 hi0 hz0 hz1 hz2 rfl (by decide) _ _ _ rfl (HR.out.alloc (.cells #[.slice a1 n1 c1, .slice a2 n2 c2, .slice a3 n3 c3] 63)) ⟨W.heap.size, 0, none⟩ 1 1 [.slice a1 n1 c1, .slice a2 n2 c2, .slice a3 n3 c3] rfl rfl HN.out (by simp [Value.oneCell']) (by decide) (by simp only [maxLen]; omega) (by omega) (by have := HW.out; show lo ≤ (W.heap.push _).size; simp; omega) (W.heap.size + 1) (by show (W.heap.push _).size = _; simp) ?_
    intro g' cap' w9 hown' hgrow hlie hlt'
    rw [← EV.out] at hgrow hlie
    obtain ⟨⟨k9, f9⟩, hend⟩ := HD.out.grown (y := (.slice a1 n1 c1, .slice a2 n2 c2, .slice a3 n3 c3)) ⟨_, _, _, _, _, _, _, _, _, rfl⟩ hgrow hlie hown'
    replace HX := HX.only (grown_only hgrow) (fun e => by have := HH.out.lt (.inr e); omega)
    have HF := Lib.hid hend
    clear hown' hgrow hlie hlt' hend HC
    refine hK.out _ _ ?_ (fun hHeldX => ?_)
    · exact ⟨HX.at (o := 0) rfl, HX.at (o := 1) rfl, HX.at (o := 2) rfl⟩
    clear hK K hHeld
    rename _ => hHeld
    try simp only [Act.put, List.setIfInBounds_toArray, List.set_cons_zero, List.set_cons_succ]
    refine wpAnyH_take (i := 8) (oi := ⟨some 13, _, _, _, _, _⟩) (v := ?_) rfl (by kernel_rfl) (by kernel_rfl) (by kernel_rfl) (fun _ _ _ h => h) (Or.inl ⟨by rfl, ?_⟩) (by assumption) ?_
    rotate_left
    · (intro w hSw; (try dsimp only at hSw); go_simp; try with_reducible rfl)
    try simp only [Act.put, List.setIfInBounds_toArray, List.set_cons_zero, List.set_cons_succ]
    refine wpAnyH_take (i := 9) (oi := ⟨some 14, _, _, _, _, _⟩) (v := ?_) rfl (by kernel_rfl) (by kernel_rfl) (by kernel_rfl) (fun _ _ _ h => h) (Or.inl ⟨by rfl, ?_⟩) (by assumption) ?_
    rotate_left
    · (intro w hSw; (try dsimp only at hSw); go_simp; try with_reducible rfl)
    try simp only [Act.put, List.setIfInBounds_toArray, List.set_cons_zero, List.set_cons_succ]
    refine wpAnyH_ready (rs := [10]) (by kernel_rfl) (by simp) ?_
    refine AllReadyH.cons (o := ⟨none, _, _, _, _, _⟩) rfl (fun K hK => ?_) AllReadyH.nil
    go_simp
    replace HX := HX.only (only_at w9 A 0 (.slice (some ⟨g', 0, none⟩) (C.length + 1) cap')) (fun e => by have := HH.out.box.lt; omega)
    refine hK.out _ _ ?_ (fun hHeldX => ?_)
    · exact ⟨HX.at (o := 0) rfl, HX.at (o := 1) rfl, HX.at (o := 2) rfl⟩
    clear hK K hHeld
    rename _ => hHeld
    try simp only [Act.put, List.setIfInBounds_toArray, List.set_cons_zero, List.set_cons_succ]
    refine wpAnyH_done (by kernel_rfl) ?_ _
    refine NoPanic.normal ?_
    obtain ⟨h5, n5, o5⟩ := HF.out
    have c5 := h5.box.at (o := 0) rfl
    have hE := Lib.hid (And.intro h5 (And.intro n5 o5))
    clear h5 n5 o5 HX k9 f9 HF
    go_wp2
    go_ret
    exact ⟨by first | rfl | (simp; rfl) | simp, _, hE.out.1, fun k hk => (hE.out.2.1 k hk).imp id (fun e => Nat.le_trans HB.out.size e), (Only.of_below HB.out.drew _).trans hE.out.2.2⟩
end

end Go.Proofs.Yteigkomefehpjaa
