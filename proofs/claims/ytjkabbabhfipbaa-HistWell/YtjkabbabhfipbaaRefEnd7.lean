/- Layer 7: the document's log (bellmanref07): End. -/
import Derived.Test.YtjkabbabhfipbaaRefLog7
import Derived.Deep.RegionHeld3
import Derived.Deep.Cut
namespace Go.Proofs.Ytjkabbabhfipbaa
open Go.RowKit

theorem abox_S {w : World} {X : Nat} {a : AnZ} (h : Blk 36 w X (anV a)) : w.cell? ⟨X, 0, none⟩ = some (numV a.e) ∧ w.cell? ⟨X, 1, none⟩ = some (numV a.a) ∧ w.cell? ⟨X, 2, none⟩ = some (numV a.b) ∧ w.cell? ⟨X, 3, none⟩ = some (.string a.t) ∧ w.cell? ⟨X, 4, none⟩ = some (.string a.p) ∧ w.cell? ⟨X, 5, none⟩ = some (.bool a.kept) :=
  ⟨h.at (o := 0) rfl, h.at (o := 1) rfl, h.at (o := 2) rfl, h.at (o := 3) rfl, h.at (o := 4) rfl, h.at (o := 5) rfl⟩
theorem ref_End_out {w : World} {base Bx now : Nat} {L : List CallZ} {xv : Value} (h : RefIs w base Bx L now xv) (id : Int) (hid : id < 1 ∨ (L.length : Int) < id) (a : AnZ) :
    Calls Try.prog 11 #[.pointer (some ⟨Bx, 0, none⟩), .int .i64 id, anA a] w fun e w' => e = .returned (.bool false) ∧ w' = w.alloc (.cells (anV a).toArray 36) := by
  obtain ⟨av, nv, rfl⟩ := own_form h.row
  have c0 := (h.blk.alloc (.cells (anV a).toArray 36)).at (o := 0) rfl
  clear h
  by_cases h1 : id < 1
  · clear hid
    go_enter Try.func11, Try.ntmps11
    go_wp2
    go_ret
    exact ⟨rfl, rfl⟩
  · have h2 : (L.length : Int) < id := by omega
    clear hid
    go_enter Try.func11, Try.ntmps11
    go_wp2
    go_ret
    exact ⟨rfl, rfl⟩
theorem ref_row {w : World} {base Bx now : Nat} {L : List CallZ} {av : Option Addr} {nv : Nat} (h : RefIs w base Bx L now (.slice av L.length nv)) {i : Nat} (hi : i < L.length) : ∃ g, av = some ⟨g, 0, none⟩ := by
  rcases h.row.2 with ⟨e, e2⟩ | ⟨g, cap, cur, e, _⟩
  · omega
  · cases e; exact ⟨g, rfl⟩
theorem ref_End_twice {w : World} {base Bx now : Nat} {L : List CallZ} {xv : Value} (h : RefIs w base Bx L now xv) (i : Nat) {c : CallZ} (hc : L[i]? = some c) (hto : c.to ≠ 0) (hL : L.length ≤ 1000000) (a : AnZ) :
    Calls Try.prog 11 #[.pointer (some ⟨Bx, 0, none⟩), .int .i64 ((i : Int) + 1), anA a] w fun e w' => e = .returned (.bool false) ∧ w' = w.alloc (.cells (anV a).toArray 36) := by
  have hi : i < L.length := (List.getElem?_eq_some_iff.1 hc).1
  obtain ⟨av, nv, rfl⟩ := own_form h.row
  obtain ⟨g, rfl⟩ := ref_row h hi
  have h1 := h.only ((Only.refl (fun _ => False) w).alloc (.cells (anV a).toArray 36)) (fun _ _ => id)
  have c0 := h1.blk.at (o := 0) rfl
  have k14 := (call_there h1.row rfl rfl hc).1 14 _ rfl
  have hto1 : (c.to != 0) = true := by simpa using hto
  clear h h1 hc hto
  go_enter Try.func11, Try.ntmps11
  go_wp2
  go_ret
  exact ⟨rfl, rfl⟩
structure REndTo (base Bx : Nat) (L : List CallZ) (now : Nat) (xv : Value) (w : World) (e : Ending) (w' : World) : Prop where
  told : e = .returned (.bool true)
  log : RefIs w' base Bx L now xv
  only : Only (RefBlk Bx xv) w w'
/-- On the way. -/
structure REMid (w0 w : World) (base Bx g Y n : Nat) (xs : List Value) (now : Nat) (xv : Value) (a : AnZ) : Prop where
  blk : Blk 29 w Bx [xv, .int .i64 now]
  row : w.ownsRow base 42 15 xv n xs
  box : Blk 36 w Y (anV a)
  only : Only (RefBlk Bx xv) w0 w
  og : xv.ownBlock = some g
  ne : Bx ≠ g ∧ Y ≠ g ∧ Y ≠ Bx
theorem REMid.start {w : World} {base Bx g now : Nat} {L : List CallZ} {xv : Value} (h : RefIs w base Bx L now xv) (og : xv.ownBlock = some g) (a : AnZ) : REMid w (w.alloc (.cells (anV a).toArray 36)) base Bx g w.heap.size L.length (callsV L) now xv a := by
  have ho : Only (fun _ => False) w (w.alloc (.cells (anV a).toArray 36)) := (Only.refl _ w).alloc _
  have h1 := h.only ho (fun _ _ => id)
  have := h.lt (.inl rfl)
  have := h.lt (.inr og)
  exact ⟨h1.blk, h1.row, Blk.new (l := anV a), ho.mono (fun _ _ h => h.elim), og, h.apart og, by omega, by omega⟩
theorem REMid.setNow {w0 w : World} {base Bx g Y n now : Nat} {xs : List Value} {xv : Value} {a : AnZ} (h : REMid w0 w base Bx g Y n xs now xv a) (m : Nat) : REMid w0 (w.setCell ⟨Bx, 1, none⟩ (.int .i64 (m : Nat))) base Bx g Y n xs m xv a := by
  have ho : Only (· = Bx) w (w.setCell ⟨Bx, 1, none⟩ (.int .i64 (m : Nat))) := (Only.refl (· = Bx) w).setCell (p := ⟨Bx, 1, none⟩) (.inl rfl) _
  exact ⟨h.blk.set 1 _, own_only h.row ho (fun k hk e => h.ne.1 (e.symm.trans (by rw [h.og] at hk; cases hk; rfl))), h.box.only ho h.ne.2.2, h.only.step ho (fun _ _ e => .inl e), h.og, h.ne⟩
theorem REMid.drew {w0 w : World} {base Bx g Y n now : Nat} {xs : List Value} {xv : Value} {a : AnZ} (h : REMid w0 w base Bx g Y n xs now xv a) : REMid w0 w.drew base Bx g Y n xs now xv a :=
  ⟨h.blk, own_only h.row ((Only.refl (fun _ => False) w).drewN 1) (fun _ _ => id), h.box, h.only.drewN 1, h.og, h.ne⟩
theorem REMid.setTo {w0 w : World} {base Bx g Y n now : Nat} {xs : List Value} {xv : Value} {a : AnZ} (h : REMid w0 w base Bx g Y n xs now xv a) (k : Nat) (u : Value) : REMid w0 (w.setCell ⟨g, k, none⟩ u) base Bx g Y n (xs.set k u) now xv a := by
  have ho : Only (· = g) w (w.setCell ⟨g, k, none⟩ u) := (Only.refl (· = g) w).setCell (p := ⟨g, k, none⟩) (.inl rfl) _
  exact ⟨h.blk.only ho h.ne.1, own_set h.row h.og u, h.box.only ho h.ne.2.1, h.only.step ho (fun _ _ e => .inr (by rw [e]; exact h.og)), h.og, h.ne⟩
theorem REMid.setAns {w0 w w5 : World} {base Bx g Y n now o : Nat} {xs : List Value} {xv : Value} {a : AnZ} (h : REMid w0 w base Bx g Y n xs now xv a) (e : w.setCells g o (anV a) = w5) : REMid w0 w5 base Bx g Y n (setsL xs o (anV a)) now xv a := by
  have ho : Only (· = g) w w5 := e ▸ only_setCells (S := (· = g)) rfl (anV a) _ w w (Only.refl _ _)
  exact ⟨h.blk.only ho h.ne.1, e ▸ own_setCells h.og (anV a) o w _ h.row, h.box.only ho h.ne.2.1, h.only.step ho (fun _ _ e => .inr (by rw [e]; exact h.og)), h.og, h.ne⟩
theorem REMid.there {w0 w : World} {base Bx g Y n now i : Nat} {xs : List Value} {xv : Value} {a : AnZ} (h : REMid w0 w base Bx g Y n xs now xv a) (hi : i < n) (o m : Nat) (hom : o + m ≤ 15) : w.there g (i * 15 + o) m := by
  obtain ⟨l, cap, _, _, hB, ht, hle⟩ := own_heap h.row h.og
  refine fun j hj => ⟨?_, hB.frozen _⟩
  rw [hB.cell, List.getElem?_eq_getElem (by omega)]
  rfl
set_option maxHeartbeats 4000000 in
set_option maxRecDepth 100000 in
theorem ref_End_yes {w : World} {base Bx now : Nat} {L : List CallZ} {xv : Value} (h : RefIs w base Bx L now xv) (i : Nat) {c : CallZ} (hc : L[i]? = some c) (hto : c.to = 0) (hnow : now ≤ 1000000) (hL : L.length ≤ 1000000) (a : AnZ) :
    Calls Try.prog 11 #[.pointer (some ⟨Bx, 0, none⟩), .int .i64 ((i : Int) + 1), anA a] w fun e w' => REndTo base Bx (L.set i (endC c a ((now + 1 : Nat) : Int))) (now + 1) xv w e w' := by
  have hi : i < L.length := (List.getElem?_eq_some_iff.1 hc).1
  obtain ⟨av, nv, rfl⟩ := own_form h.row
  obtain ⟨g, rfl⟩ := ref_row h hi
  have D0 := Lib.hid (REMid.start h rfl a)
  have c0 := D0.out.blk.at (o := 0) rfl
  have c1 := D0.out.blk.at (o := 1) rfl
  have f1 := D0.out.blk.frozen 1
  have k14 := (call_there D0.out.row rfl rfl hc).1 14 _ rfl
  have D1 := Lib.hid (D0.out.setNow (now + 1))
  have hto1 : (c.to != 0) = false := by simpa using hto
  have HC := Lib.hid hc
  clear h hc hto
  go_enter Try.func11, Try.ntmps11
  go_wp2_with fail
  rw [show (.int .i64 ((now : Int) + 1) : Value) = .int .i64 ((now + 1 : Nat) : Int) from rfl]
  generalize ((w.alloc (.cells (anV a).toArray 36)).setCell ⟨Bx, 1, none⟩ (.int .i64 ((now + 1 : Nat) : Int))) = w1 at D1 ⊢
  clear c0 c1 f1 k14 D0
  have hwr : IntKind.i64.wrap (i : Int) = (i : Int) := by rw [IntKind.wrap_i64]; omega
  have hi1 : (0 : Int) ≤ (i : Int) := by omega
  have hi2 : (i : Int) < (L.length : Int) := by omega
  have D2 := Lib.hid D1.out.drew
  obtain ⟨u2, k2⟩ := Option.isSome_iff_exists.1 (D2.out.there hi 14 1 (by decide) 0 (by decide)).1
  have f2 := (D2.out.there hi 14 1 (by decide) 0 (by decide)).2
  have D3 := Lib.hid (D1.out.setTo (i * 15 + 14) (.int .i64 ((now : Int) + 1))).drew
  refine wp_region_noPanic ?_
  refine wp_region_held_drew (S := (fun w' => w'.cell? ⟨Bx, 0, none⟩ = some (.slice (some ⟨g, 0, none⟩) L.length nv) ∧ w'.cell? ⟨Bx, 1, none⟩ = some (.int .i64 ((now : Int) + 1)))) (by kernel_rfl) ?_ (fun hHeld => ?_)
  · exact ⟨D2.out.blk.at (o := 0) rfl, D2.out.blk.at (o := 1) rfl⟩
  refine wpAnyH_take (i := 0) (oi := ⟨some 37, _, _, _, _, _⟩) (v := ?_) rfl (by kernel_rfl) (by kernel_rfl) (by kernel_rfl) (fun _ _ _ h => h) (Or.inl ⟨by rfl, ?_⟩) (by assumption) ?_
  rotate_left
  · (intro w hSw; (try dsimp only at hSw); go_simp; try with_reducible rfl)
  try simp only [Act.put, List.setIfInBounds_toArray, List.set_cons_zero, List.set_cons_succ]
  refine wpAnyH_take (i := 1) (oi := ⟨some 38, _, _, _, _, _⟩) (v := ?_) rfl (by kernel_rfl) (by kernel_rfl) (by kernel_rfl) (fun _ _ _ h => h) (Or.inl ⟨by rfl, ?_⟩) (by assumption) ?_
  rotate_left
  · (intro w hSw; (try dsimp only at hSw); go_simp; try with_reducible rfl)
  try simp only [Act.put, List.setIfInBounds_toArray, List.set_cons_zero, List.set_cons_succ]
  refine wpAnyH_take (i := 2) (oi := ⟨some 39, _, _, _, _, _⟩) (v := ?_) rfl (by kernel_rfl) (by kernel_rfl) (by kernel_rfl) (fun _ _ _ h => h) (Or.inl ⟨by rfl, ?_⟩) (by assumption) ?_
  rotate_left
  · (intro w hSw; (try dsimp only at hSw); go_simp; try with_reducible rfl)
  try simp only [Act.put, List.setIfInBounds_toArray, List.set_cons_zero, List.set_cons_succ]
  refine wpAnyH_take (i := 3) (oi := ⟨some 40, _, _, _, _, _⟩) (v := ?_) rfl (by kernel_rfl) (by kernel_rfl) (by kernel_rfl) (fun _ _ _ h => h) (Or.inl ⟨by rfl, ?_⟩) (by assumption) ?_
  rotate_left
  · (intro w hSw; (try dsimp only at hSw); go_simp; try with_reducible rfl)
  try simp only [Act.put, List.setIfInBounds_toArray, List.set_cons_zero, List.set_cons_succ]
  refine wpAnyH_take (i := 4) (oi := ⟨some 41, _, _, _, _, _⟩) (v := ?_) rfl (by kernel_rfl) (by kernel_rfl) (by kernel_rfl) (fun _ _ _ h => h) (Or.inl ⟨by rfl, ?_⟩) (by assumption) ?_
  rotate_left
  · (intro w hSw; (try dsimp only at hSw); go_simp; try with_reducible rfl)
  try simp only [Act.put, List.setIfInBounds_toArray, List.set_cons_zero, List.set_cons_succ]
  refine wpAnyH_take (i := 5) (oi := ⟨some 42, _, _, _, _, _⟩) (v := ?_) rfl (by kernel_rfl) (by kernel_rfl) (by kernel_rfl) (fun _ _ _ h => h) (Or.inl ⟨by rfl, ?_⟩) (by assumption) ?_
  rotate_left
  · (intro w hSw; (try dsimp only at hSw); go_simp; try with_reducible rfl)
  try simp only [Act.put, List.setIfInBounds_toArray, List.set_cons_zero, List.set_cons_succ]
  refine wpAnyH_take (i := 6) (oi := ⟨some 43, _, _, _, _, _⟩) (v := ?_) rfl (by kernel_rfl) (by kernel_rfl) (by kernel_rfl) (fun _ _ _ h => h) (Or.inl ⟨by rfl, ?_⟩) (by assumption) ?_
  rotate_left
  · (intro w hSw; (try dsimp only at hSw); go_simp; try with_reducible rfl)
  try simp only [Act.put, List.setIfInBounds_toArray, List.set_cons_zero, List.set_cons_succ]
  refine wpAnyH_take (i := 7) (oi := ⟨some 44, _, _, _, _, _⟩) (v := ?_) rfl (by kernel_rfl) (by kernel_rfl) (by kernel_rfl) (fun _ _ _ h => h) (Or.inl ⟨by rfl, ?_⟩) (by assumption) ?_
  rotate_left
  · (intro w hSw; (try dsimp only at hSw); go_simp; try with_reducible rfl)
  try simp only [Act.put, List.setIfInBounds_toArray, List.set_cons_zero, List.set_cons_succ]
  refine wpAnyH_take (i := 8) (oi := ⟨some 45, _, _, _, _, _⟩) (v := ?_) rfl (by kernel_rfl) (by kernel_rfl) (by kernel_rfl) (fun _ _ _ h => h) (Or.inl ⟨by rfl, ?_⟩) (by assumption) ?_
  rotate_left
  · (intro w hSw; (try dsimp only at hSw); go_simp; try with_reducible rfl)
  try simp only [Act.put, List.setIfInBounds_toArray, List.set_cons_zero, List.set_cons_succ]
  refine wpAnyH_take (i := 9) (oi := ⟨some 46, _, _, _, _, _⟩) (v := ?_) rfl (by kernel_rfl) (by kernel_rfl) (by kernel_rfl) (fun _ _ _ h => h) (Or.inl ⟨by rfl, ?_⟩) (by assumption) ?_
  rotate_left
  · (intro w hSw; (try dsimp only at hSw); go_simp; try with_reducible rfl)
  try simp only [Act.put, List.setIfInBounds_toArray, List.set_cons_zero, List.set_cons_succ]
  refine wpAnyH_take (i := 10) (oi := ⟨some 47, _, _, _, _, _⟩) (v := ?_) rfl (by kernel_rfl) (by kernel_rfl) (by kernel_rfl) (fun _ _ _ h => h) (Or.inl ⟨by rfl, ?_⟩) (by assumption) ?_
  rotate_left
  · (intro w hSw; (try dsimp only at hSw); go_simp; try with_reducible rfl)
  try simp only [Act.put, List.setIfInBounds_toArray, List.set_cons_zero, List.set_cons_succ]
  refine wpAnyH_take (i := 11) (oi := ⟨some 48, _, _, _, _, _⟩) (v := ?_) rfl (by kernel_rfl) (by kernel_rfl) (by kernel_rfl) (fun _ _ _ h => h) (Or.inl ⟨by rfl, ?_⟩) (by assumption) ?_
  rotate_left
  · (intro w hSw; (try dsimp only at hSw); go_simp; try with_reducible rfl)
  try simp only [Act.put, List.setIfInBounds_toArray, List.set_cons_zero, List.set_cons_succ]
  refine wpAnyH_ready (rs := [12]) (by kernel_rfl) (by simp) ?_
  refine AllReadyH.cons (o := ⟨none, _, _, _, _, _⟩) rfl (fun K hK => ?_) AllReadyH.nil
  go_simp
  refine hK.out _ _ ?_ (fun hHeldX => ?_)
  · exact ⟨D3.out.blk.at (o := 0) rfl, D3.out.blk.at (o := 1) rfl⟩
  clear hK K hHeld
  rename _ => hHeld
  try simp only [Act.put, List.setIfInBounds_toArray, List.set_cons_zero, List.set_cons_succ]
  refine wpAnyH_done (by kernel_rfl) ?_ _
  refine NoPanic.normal ?_
  go_wp2_with fail
  generalize (w1.setCell ⟨g, i * 15 + 14, none⟩ (.int .i64 ((now : Int) + 1))).drew = w3 at D3 ⊢
  have D4 := Lib.hid D3.out.drew
  refine wp_region_noPanic ?_
  refine wp_region_held_drew (S := (fun w' => w'.cell? ⟨Bx, 0, none⟩ = some (.slice (some ⟨g, 0, none⟩) L.length nv) ∧ w'.cell? ⟨w.heap.size, 0, none⟩ = some (numV a.e) ∧ w'.cell? ⟨w.heap.size, 1, none⟩ = some (numV a.a) ∧ w'.cell? ⟨w.heap.size, 2, none⟩ = some (numV a.b) ∧ w'.cell? ⟨w.heap.size, 3, none⟩ = some (.string a.t) ∧ w'.cell? ⟨w.heap.size, 4, none⟩ = some (.string a.p) ∧ w'.cell? ⟨w.heap.size, 5, none⟩ = some (.bool a.kept))) (by kernel_rfl) ?_ (fun hHeld => ?_)
  · exact ⟨D4.out.blk.at (o := 0) rfl, abox_S D4.out.box⟩
  refine wpAnyH_take (i := 0) (oi := ⟨some 49, _, _, _, _, _⟩) (v := ?_) rfl (by kernel_rfl) (by kernel_rfl) (by kernel_rfl) (fun _ _ _ h => h) (Or.inl ⟨by rfl, ?_⟩) (by assumption) ?_
  rotate_left
  · (intro w hSw; (try dsimp only at hSw); go_simp; try with_reducible rfl)
  try simp only [Act.put, List.setIfInBounds_toArray, List.set_cons_zero, List.set_cons_succ]
  refine wpAnyH_take (i := 1) (oi := ⟨some 50, _, _, _, _, _⟩) (v := ?_) rfl (by kernel_rfl) (by kernel_rfl) (by kernel_rfl) (fun _ _ _ h => h) (Or.inl ⟨by rfl, ?_⟩) (by assumption) ?_
  rotate_left
  · (intro w hSw; (try dsimp only at hSw); go_simp; try with_reducible rfl)
  try simp only [Act.put, List.setIfInBounds_toArray, List.set_cons_zero, List.set_cons_succ]
  refine wpAnyH_take (i := 2) (oi := ⟨some 51, _, _, _, _, _⟩) (v := ?_) rfl (by kernel_rfl) (by kernel_rfl) (by kernel_rfl) (fun _ _ _ h => h) (Or.inl ⟨by rfl, ?_⟩) (by assumption) ?_
  rotate_left
  · (intro w hSw; (try dsimp only at hSw); go_simp; try with_reducible rfl)
  try simp only [Act.put, List.setIfInBounds_toArray, List.set_cons_zero, List.set_cons_succ]
  refine wpAnyH_take (i := 3) (oi := ⟨some 52, _, _, _, _, _⟩) (v := ?_) rfl (by kernel_rfl) (by kernel_rfl) (by kernel_rfl) (fun _ _ _ h => h) (Or.inl ⟨by rfl, ?_⟩) (by assumption) ?_
  rotate_left
  · (intro w hSw; (try dsimp only at hSw); go_simp; try with_reducible rfl)
  try simp only [Act.put, List.setIfInBounds_toArray, List.set_cons_zero, List.set_cons_succ]
  refine wpAnyH_take (i := 4) (oi := ⟨some 53, _, _, _, _, _⟩) (v := ?_) rfl (by kernel_rfl) (by kernel_rfl) (by kernel_rfl) (fun _ _ _ h => h) (Or.inl ⟨by rfl, ?_⟩) (by assumption) ?_
  rotate_left
  · (intro w hSw; (try dsimp only at hSw); go_simp; try with_reducible rfl)
  try simp only [Act.put, List.setIfInBounds_toArray, List.set_cons_zero, List.set_cons_succ]
  refine wpAnyH_take (i := 5) (oi := ⟨some 54, _, _, _, _, _⟩) (v := ?_) rfl (by kernel_rfl) (by kernel_rfl) (by kernel_rfl) (fun _ _ _ h => h) (Or.inl ⟨by rfl, ?_⟩) (by assumption) ?_
  rotate_left
  · (intro w hSw; (try dsimp only at hSw); go_simp; try with_reducible rfl)
  try simp only [Act.put, List.setIfInBounds_toArray, List.set_cons_zero, List.set_cons_succ]
  refine wpAnyH_take (i := 6) (oi := ⟨some 55, _, _, _, _, _⟩) (v := ?_) rfl (by kernel_rfl) (by kernel_rfl) (by kernel_rfl) (fun _ _ _ h => h) (Or.inl ⟨by rfl, ?_⟩) (by assumption) ?_
  rotate_left
  · (intro w hSw; (try dsimp only at hSw); go_simp; try with_reducible rfl)
  try simp only [Act.put, List.setIfInBounds_toArray, List.set_cons_zero, List.set_cons_succ]
  refine wpAnyH_take (i := 7) (oi := ⟨some 56, _, _, _, _, _⟩) (v := ?_) rfl (by kernel_rfl) (by kernel_rfl) (by kernel_rfl) (fun _ _ _ h => h) (Or.inl ⟨by rfl, ?_⟩) (by assumption) ?_
  rotate_left
  · (intro w hSw; (try dsimp only at hSw); go_simp; try with_reducible rfl)
  try simp only [Act.put, List.setIfInBounds_toArray, List.set_cons_zero, List.set_cons_succ]
  refine wpAnyH_take (i := 8) (oi := ⟨some 57, _, _, _, _, _⟩) (v := ?_) rfl (by kernel_rfl) (by kernel_rfl) (by kernel_rfl) (fun _ _ _ h => h) (Or.inl ⟨by rfl, ?_⟩) (by assumption) ?_
  rotate_left
  · (intro w hSw; (try dsimp only at hSw); go_simp; try with_reducible rfl)
  try simp only [Act.put, List.setIfInBounds_toArray, List.set_cons_zero, List.set_cons_succ]
  refine wpAnyH_ready (rs := [9]) (by kernel_rfl) (by simp) ?_
  refine AllReadyH.cons (o := ⟨none, _, _, _, _, _⟩) rfl (fun K hK => ?_) AllReadyH.nil
  refine step_store_mid rfl 36 (.tmp 57) (.tmp 55) rfl g (i * 15 + 7) (anV a).toArray rfl rfl (D4.out.there hi 7 6 (by decide)) (by kernel_rfl) (by simp [anV, Value.oneCell']) ?_
  obtain ⟨w5, e5⟩ : ∃ w5, w3.drew.setCells g (i * 15 + 7) (anV a) = w5 := ⟨_, rfl⟩
  rw [show (anV a).toArray.toList = anV a from rfl, e5]
  have D5 := Lib.hid (D4.out.setAns e5)
  clear e5
  refine hK.out _ _ ?_ (fun hHeldX => ?_)
  · exact ⟨D5.out.blk.at (o := 0) rfl, abox_S D5.out.box⟩
  clear hK K hHeld
  rename _ => hHeld
  simp only [Act.put]
  refine wpAnyH_done (by kernel_rfl) ?_ _
  refine NoPanic.normal ?_
  go_wp2
  go_ret
  refine ⟨rfl, ⟨D5.out.blk, ?_⟩, D5.out.only⟩
  rw [List.length_set, ← row_end2 HC.out]
  exact D5.out.row

end Go.Proofs.Ytjkabbabhfipbaa
