/- Layer 8 (package lin): answers. -/
import Derived.Test.YthngehpmoiojfaaFn8
import Derived.Deep.RegionHeld3
import Derived.Deep.Cut
namespace Go.Proofs.Ythngehpmoiojfaa
open Go.RowKit

theorem rangeAt_sub {w : World} {b o : Nat} {l m : List Value} (h : w.rangeAt b 0 l) (hm : ∀ j v, m[j]? = some v → l[o + j]? = some v) : w.rangeAt b o m := fun j v hv => by
  have := h (o + j) v (hm j v hv)
  rwa [Nat.zero_add] at this
theorem call_an (c : CallZ) : ∀ j v, (anV c.an)[j]? = some v → (callV c)[7 + j]? = some v
  | 0, _, h => h
  | 1, _, h => h
  | 2, _, h => h
  | 3, _, h => h
  | 4, _, h => h
  | 5, _, h => h
  | j + 6, v, h => by simp [anV] at h
theorem call_op (c : CallZ) : ∀ j v, (opV c.op)[j]? = some v → (callV c)[2 + j]? = some v
  | 0, _, h => h
  | 1, _, h => h
  | 2, _, h => h
  | 3, _, h => h
  | 4, _, h => h
  | j + 5, v, h => by simp [opV] at h
/-- Ahead of answers' last line. -/
structure AMid (w w4 : World) (X Y : Nat) (s' : StZ) (a' : AnZ) (c : CallZ) : Prop where
  x : Blk 40 w4 X (stV s')
  y : Blk 32 w4 Y (anV a')
  c : Blk 34 w4 (w.heap.size + 1 + 1) (callV c)
  r : Blk 40 w4 (w.heap.size + 1 + 1 + 1) (stV st0)
  lx : w.heap.size + 1 + 1 + 1 < X
  ly : w.heap.size + 1 + 1 + 1 < Y
  b : Below w.heap.size w w4
theorem AMid.held {w w4 : World} {X Y : Nat} {s' : StZ} {a' : AnZ} {c : CallZ} (h : AMid w w4 X Y s' a' c) : w4.drew.rangeAt X 0 (stV s') ∧ w4.drew.rangeAt Y 0 (anV a') ∧ w4.drew.rangeAt (w.heap.size + 1 + 1) 7 (anV c.an) :=
  ⟨blk_range (h.x.drewN 1), blk_range (h.y.drewN 1), rangeAt_sub (blk_range (h.c.drewN 1)) (call_an c)⟩
theorem ans_wrote {w w4 w5 : World} {X Y : Nat} {s' : StZ} {a' : AnZ} {c : CallZ} (h : AMid w w4 X Y s' a' c) (e : w4.drew.setCells (w.heap.size + 1 + 1 + 1) 0 (stV s') = w5) :
    (w5.rangeAt X 0 (stV s') ∧ w5.rangeAt Y 0 (anV a') ∧ w5.rangeAt (w.heap.size + 1 + 1) 7 (anV c.an)) ∧ (w5.cell? ⟨w.heap.size + 1 + 1 + 1, 0, none⟩ = some (numV s'.n) ∧ w5.cell? ⟨w.heap.size + 1 + 1 + 1, 1, none⟩ = some (.string s'.slot)) ∧ Below w.heap.size w w5 := by
  have ho : Only (· = w.heap.size + 1 + 1 + 1) w4.drew w5 := e ▸ only_setCells (S := (· = w.heap.size + 1 + 1 + 1)) rfl _ _ _ _ (Only.refl _ _)
  have hr : Blk 40 w5 (w.heap.size + 1 + 1 + 1) (stV s') := by
    rw [← e]
    have := Blk.setCells (stV s') 0 _ _ (h.r.drewN 1)
    exact this
  have hlx := h.lx
  have hly := h.ly
  exact ⟨⟨blk_range ((h.x.drewN 1).only ho (by omega)), blk_range ((h.y.drewN 1).only ho (by omega)), rangeAt_sub (blk_range ((h.c.drewN 1).only ho (by omega))) (call_an c)⟩, st_cells hr, Only.below_step (below_draws h.b 1).size (below_draws h.b 1) ho (by intro i hi e; omega)⟩

set_option maxHeartbeats 2000000 in
theorem lin_answers (s0 s : StZ) (c : CallZ) (h1 : -100000000 ≤ s.n) (h2 : s.n ≤ 100000000) (w : World) : Calls Try.prog 37 #[mA s0, stA s, callA c] w fun e w' => e = .returned (.tuple #[stA (doZ s c.op).1, .bool (decide ((doZ s c.op).2 = c.an))]) ∧ Below w.heap.size w w' := by
  have hD := fn_Do s c.op h1 h2
  generalize doZ s c.op = r at hD ⊢
  obtain ⟨s', a'⟩ := r
  simp only at hD ⊢
  have hq := eql_an a' c.an
  have cD : ((((w.alloc (.cells (mV s0).toArray 44)).alloc (.cells (stV s).toArray 40)).alloc (.cells (callV c).toArray 34)).alloc (.cells #[Value.int .i64 0, Value.string { data := #[] }] 40)).cell? ⟨w.heap.size, 2, none⟩ = some (fn8 21) := ((((Blk.new (l := mV s0)).alloc _).alloc _).alloc _).at (o := 2) rfl
  have R1 := Lib.hid (blk_range (((Blk.newN (n := w.heap.size + 1) (by simp) (W := w.alloc (.cells (mV s0).toArray 44)) (t := 40) (l := stV s)).alloc (.cells (callV c).toArray 34)).alloc (.cells #[Value.int .i64 0, Value.string { data := #[] }] 40)))
  have B2 := Lib.hid ((Blk.newN (n := w.heap.size + 1 + 1) (by simp) (W := (w.alloc (.cells (mV s0).toArray 44)).alloc (.cells (stV s).toArray 40)) (t := 34) (l := callV c)).alloc (.cells #[Value.int .i64 0, Value.string { data := #[] }] 40))
  have B3 := Lib.hid (Blk.newN (n := w.heap.size + 1 + 1 + 1) (by simp) (W := ((w.alloc (.cells (mV s0).toArray 44)).alloc (.cells (stV s).toArray 40)).alloc (.cells (callV c).toArray 34)) (t := 40) (l := [Value.int .i64 0, Value.string { data := #[] }]))
  have R2 := Lib.hid (rangeAt_sub (blk_range B2.out) (call_op c))
  go_enter Try.func37, Try.ntmps37
  go_wp2_with (first | (with_reducible show wpList _ _ _ (⟨some 13, _, _, _, _, _⟩ :: _) _ _; refine wpList_load_mid rfl 40 _ rfl (w.heap.size + 1) 0 rfl (stV s) _ R1.out Try.underlying40 rfl (by kernel_rfl) ?_) | (with_reducible show wpList _ _ _ (⟨some 15, _, _, _, _, _⟩ :: _) _ _; refine wpList_load_mid rfl 27 _ rfl (w.heap.size + 1 + 1) 2 rfl (opV c.op) _ R2.out Try.underlying27 rfl (by kernel_rfl) ?_))
  refine (hD _).mono ?_
  rintro e w1 ⟨rfl, hb⟩
  have C2 := Lib.hid (B2.out.below hb (by simp))
  have C3 := Lib.hid (B3.out.below hb (by simp))
  go_wp2_with (first | (with_reducible show wpList _ _ _ (⟨none, .store 40 _ _, _, _, _, _⟩ :: _) _ _; refine wpList_store_blk rfl 40 _ _ rfl 40 w1.heap.size [Value.int .i64 0, Value.string { data := #[] }] (stV s') rfl rfl ((Blk.new (l := [Value.int .i64 0, Value.string { data := #[] }])).alloc _) rfl (by kernel_rfl) (stV_one _) ?_; intro w3 hB3 ho3) | (with_reducible show wpList _ _ _ (⟨none, .store 32 _ _, _, _, _, _⟩ :: _) _ _; refine wpList_store_blk rfl 32 _ _ rfl 32 (w1.heap.size + 1) [Value.int .i64 0, Value.int .i64 0, Value.int .i64 0, Value.string { data := #[] }, Value.string { data := #[] }, Value.bool false] (anV a') rfl rfl ((Blk.newN (n := w1.heap.size + 1) (by simp) (l := [Value.int .i64 0, Value.int .i64 0, Value.int .i64 0, Value.string { data := #[] }, Value.string { data := #[] }, Value.bool false])).only ho3 (by omega)) rfl (by kernel_rfl) (anV_one _) ?_; intro w4 hB4 ho4))
  have hs1 : w.heap.size + 1 + 1 + 1 + 1 ≤ w1.heap.size := by have := hb.size; simpa using this
  have M : AMid w w4 w1.heap.size (w1.heap.size + 1) s' a' c := by
    refine ⟨hB3.only ho4 (by omega), hB4, (((C2.out.alloc _).alloc _).only ho3 (by omega)).only ho4 (by omega), (((C3.out.alloc _).alloc _).only ho3 (by omega)).only ho4 (by omega), by omega, by omega, ?_⟩
    exact (((((((((Below.refl w.heap.size w).alloc (Nat.le_refl _) _).alloc (by simp) _).alloc (by simp; omega) _).alloc (by simp; omega) _).trans (hb.mono (by simp; omega))).alloc (by omega) _).alloc (by simp; omega) _).trans (ho3.below (by simp; omega) (by intro i hi e; omega))).trans (ho4.below (by have := ho3.size; simp at this; omega) (by intro i hi e; omega))
  have M := Lib.hid M
  have T6 := Lib.hid (blk_there (M.out.r.drewN 1) (o := 0) (m := 2) (by decide))
  refine wp_region_noPanic ?_
  refine wp_region_held_drew (S := (fun w' => w'.rangeAt w1.heap.size 0 (stV s') ∧ w'.rangeAt (w1.heap.size + 1) 0 (anV a') ∧ w'.rangeAt (w.heap.size + 1 + 1) 7 (anV c.an))) (by kernel_rfl) ?_ (fun hHeld => ?_)
  · exact AMid.held M.out
  refine wpAnyH_take (i := 0) (oi := ⟨some 19, _, _, _, _, _⟩) (v := stA s') rfl (by kernel_rfl) (by kernel_rfl) (by kernel_rfl) (fun _ _ _ h => h) (yieldsIf_load_mid (by rfl) 40 (.tmp 8) rfl w1.heap.size 0 rfl (stV s') _ (fun _ h => h.1) Try.underlying40 rfl (by kernel_rfl)) (by assumption) ?_
  try simp only [Act.put, List.setIfInBounds_toArray, List.set_cons_zero, List.set_cons_succ]
  refine wpAnyH_take (i := 1) (oi := ⟨some 20, _, _, _, _, _⟩) (v := anA a') rfl (by kernel_rfl) (by kernel_rfl) (by kernel_rfl) (fun _ _ _ h => h) (yieldsIf_load_mid (by rfl) 32 (.tmp 9) rfl (w1.heap.size + 1) 0 rfl (anV a') _ (fun _ h => h.2.1) Try.underlying32 rfl (by kernel_rfl)) (by assumption) ?_
  try simp only [Act.put, List.setIfInBounds_toArray, List.set_cons_zero, List.set_cons_succ]
  refine wpAnyH_take (i := 2) (oi := ⟨some 21, _, _, _, _, _⟩) (v := ?_) rfl (by kernel_rfl) (by kernel_rfl) (by kernel_rfl) (fun _ _ _ h => h) (Or.inl ⟨by rfl, ?_⟩) (by assumption) ?_
  rotate_left
  · (intro w hSw; (try dsimp only at hSw); go_simp; try with_reducible rfl)
  try simp only [Act.put, List.setIfInBounds_toArray, List.set_cons_zero, List.set_cons_succ]
  refine wpAnyH_take (i := 3) (oi := ⟨some 22, _, _, _, _, _⟩) (v := anA c.an) rfl (by kernel_rfl) (by kernel_rfl) (by kernel_rfl) (fun _ _ _ h => h) (yieldsIf_load_mid (by rfl) 32 (.tmp 21) rfl (w.heap.size + 1 + 1) 7 rfl (anV c.an) _ (fun _ h => h.2.2) Try.underlying32 rfl (by kernel_rfl)) (by assumption) ?_
  try simp only [Act.put, List.setIfInBounds_toArray, List.set_cons_zero, List.set_cons_succ]
  refine wpAnyH_take (i := 4) (oi := ⟨some 23, _, _, _, _, _⟩) (v := ?_) rfl (by kernel_rfl) (by kernel_rfl) (by kernel_rfl) (fun _ _ _ h => h) (Or.inl ⟨by rfl, ?_⟩) (by assumption) ?_
  rotate_left
  · (intro w hSw; (try dsimp only at hSw); go_simp; try with_reducible rfl)
  try simp only [Act.put, List.setIfInBounds_toArray, List.set_cons_zero, List.set_cons_succ]
  refine wpAnyH_ready (rs := [5]) (by kernel_rfl) (by simp) ?_
  refine AllReadyH.cons (o := ⟨none, _, _, _, _, _⟩) rfl (fun K hK => ?_) AllReadyH.nil
  refine step_store_mid rfl 40 (.tmp 6) (.tmp 19) rfl (w.heap.size + 1 + 1 + 1) 0 (stV s').toArray rfl rfl T6.out (by kernel_rfl) (stV_one _) ?_
  obtain ⟨w5, e5⟩ : ∃ w5, (w4.drew).setCells (w.heap.size + 1 + 1 + 1) 0 (stV s') = w5 := ⟨_, rfl⟩
  rw [show (stV s').toArray.toList = stV s' from rfl, e5]
  have F5 := Lib.hid (ans_wrote M.out e5)
  clear e5
  refine hK.out _ _ ?_ (fun hHeldX => ?_)
  · exact F5.out.1
  clear hK K hHeld
  rename _ => hHeld
  simp only [Act.put]
  refine wpAnyH_take (i := 6) (oi := ⟨some 7, _, _, _, _, _⟩) (v := ?_) rfl (by kernel_rfl) (by kernel_rfl) (by kernel_rfl) (fun _ _ _ h => h) (Or.inl ⟨by rfl, ?_⟩) (by assumption) ?_
  rotate_left
  · (intro w hSw; (try dsimp only at hSw); go_simp; try with_reducible rfl)
  try simp only [Act.put, List.setIfInBounds_toArray, List.set_cons_zero, List.set_cons_succ]
  refine wpAnyH_done (by kernel_rfl) ?_ _
  refine NoPanic.normal ?_
  obtain ⟨_, ⟨c0, c1⟩, hbw⟩ := F5.out
  go_wp2
  refine bodyPost_ret (v := .tuple #[stA s', .bool (decide (a' = c.an))]) (by simp [results, Try.f37, go_sem, c0, c1]; rfl) rfl ⟨rfl, hbw⟩


end Go.Proofs.Ythngehpmoiojfaa
