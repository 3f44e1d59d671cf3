/- Layer 8: the functions that the statements hand in; answers. -/
import Derived.Test.YthngehpmoiojfaaSmallW8
import Derived.Test.YthngehpmoiojfaaEq8
import Derived.Test.YthngehpmoiojfaaBlk8
namespace Go.Proofs.Ythngehpmoiojfaa
open Go.RowKit

theorem fn_Key {s : StZ} (h1 : -100000000 ≤ s.n) (h2 : s.n ≤ 100000000) (h3 : s.slot.size ≤ 1000000) (w : World) : Calls Try.prog 22 #[stA s] w fun e w' => e = .returned (.string (keyZ s)) ∧ Below w.heap.size w w' := by
  have R := Lib.hid (blk_range (Blk.new (W := w) (t := 40) (l := stV s)))
  go_enter Try.func22, Try.ntmps22
  go_wp2_with (first | (with_reducible show wpList _ _ _ (⟨some 3, _, _, _, _, _⟩ :: _) _ _; refine wpList_load_mid rfl 40 _ rfl w.heap.size 0 rfl (stV s) _ R.out Try.underlying40 rfl (by kernel_rfl) ?_))
  refine (ref_Key h1 h2 h3 _).mono ?_
  rintro e w1 ⟨rfl, hb⟩
  go_wp2
  go_ret
  exact ⟨rfl, below_step ((Below.refl _ _).alloc (Nat.le_refl _) _) hb⟩

theorem stV_one (s : StZ) : (stV s).toArray.all (·.oneCell') = true := by simp [stV, Value.oneCell']
theorem anV_one (a : AnZ) : (anV a).toArray.all (·.oneCell') = true := by simp [anV, Value.oneCell']
theorem st_cells {w : World} {B : Nat} {s : StZ} (h : Blk 40 w B (stV s)) : w.cell? ⟨B, 0, none⟩ = some (numV s.n) ∧ w.cell? ⟨B, 1, none⟩ = some (.string s.slot) := ⟨h.at (o := 0) rfl, h.at (o := 1) rfl⟩
theorem an_cells {w : World} {B : Nat} {a : AnZ} (h : Blk 32 w B (anV a)) : w.cell? ⟨B, 0, none⟩ = some (numV a.e) ∧ w.cell? ⟨B, 1, none⟩ = some (numV a.a) ∧ w.cell? ⟨B, 2, none⟩ = some (numV a.b) ∧ w.cell? ⟨B, 3, none⟩ = some (.string a.t) ∧ w.cell? ⟨B, 4, none⟩ = some (.string a.p) ∧ w.cell? ⟨B, 5, none⟩ = some (.bool a.kept) :=
  ⟨h.at (o := 0) rfl, h.at (o := 1) rfl, h.at (o := 2) rfl, h.at (o := 3) rfl, h.at (o := 4) rfl, h.at (o := 5) rfl⟩
set_option maxHeartbeats 1000000 in
theorem fn_Do (s : StZ) (x : OpZ) (h1 : -100000000 ≤ s.n) (h2 : s.n ≤ 100000000) (w : World) : Calls Try.prog 21 #[stA s, opA x] w fun e w' => e = .returned (.tuple #[stA (doZ s x).1, anA (doZ s x).2]) ∧ Below w.heap.size w w' := by
  have hD := ref_Do s x h1 h2
  generalize doZ s x = r at hD ⊢
  obtain ⟨s', a'⟩ := r
  simp only at hD ⊢
  have R0 := Lib.hid (blk_range ((((Blk.new (W := w) (t := 40) (l := stV s)).alloc (.cells (opV x).toArray 27)).alloc (.cells #[Value.int .i64 0, Value.string { data := #[] }] 40)).alloc (.cells #[Value.int .i64 0, Value.int .i64 0, Value.int .i64 0, Value.string { data := #[] }, Value.string { data := #[] }, Value.bool false] 32)))
  have R1 := Lib.hid (blk_range (((Blk.newN (n := w.heap.size + 1) (by simp) (W := w.alloc (.cells (stV s).toArray 40)) (t := 27) (l := opV x)).alloc (.cells #[Value.int .i64 0, Value.string { data := #[] }] 40)).alloc (.cells #[Value.int .i64 0, Value.int .i64 0, Value.int .i64 0, Value.string { data := #[] }, Value.string { data := #[] }, Value.bool false] 32)))
  have B2 := Lib.hid ((Blk.newN (n := w.heap.size + 1 + 1) (by simp) (W := (w.alloc (.cells (stV s).toArray 40)).alloc (.cells (opV x).toArray 27)) (t := 40) (l := [Value.int .i64 0, Value.string { data := #[] }])).alloc (.cells #[Value.int .i64 0, Value.int .i64 0, Value.int .i64 0, Value.string { data := #[] }, Value.string { data := #[] }, Value.bool false] 32))
  have B3 := Lib.hid (Blk.newN (n := w.heap.size + 1 + 1 + 1) (by simp) (W := ((w.alloc (.cells (stV s).toArray 40)).alloc (.cells (opV x).toArray 27)).alloc (.cells #[Value.int .i64 0, Value.string { data := #[] }] 40)) (t := 32) (l := [Value.int .i64 0, Value.int .i64 0, Value.int .i64 0, Value.string { data := #[] }, Value.string { data := #[] }, Value.bool false]))
  go_enter Try.func21, Try.ntmps21
  go_wp2_with (first | (with_reducible show wpList _ _ _ (⟨some 6, _, _, _, _, _⟩ :: _) _ _; refine wpList_load_mid rfl 40 _ rfl w.heap.size 0 rfl (stV s) _ R0.out Try.underlying40 rfl (by kernel_rfl) ?_) | (with_reducible show wpList _ _ _ (⟨some 7, _, _, _, _, _⟩ :: _) _ _; refine wpList_load_mid rfl 27 _ rfl (w.heap.size + 1) 0 rfl (opV x) _ R1.out Try.underlying27 rfl (by kernel_rfl) ?_))
  refine (hD _).mono ?_
  rintro e w1 ⟨rfl, hb⟩
  have C2 := Lib.hid (B2.out.below hb (by simp))
  have C3 := Lib.hid (B3.out.below hb (by simp))
  go_wp2_with (first | (with_reducible show wpList _ _ _ (⟨none, .store 40 _ _, _, _, _, _⟩ :: _) _ _; refine wpList_store_blk rfl 40 _ _ rfl 40 (w.heap.size + 1 + 1) [Value.int .i64 0, Value.string { data := #[] }] (stV s') rfl rfl C2.out rfl (by kernel_rfl) (stV_one _) ?_; intro w2 hB2 ho2) | (with_reducible show wpList _ _ _ (⟨none, .store 32 _ _, _, _, _, _⟩ :: _) _ _; refine wpList_store_blk rfl 32 _ _ rfl 32 (w.heap.size + 1 + 1 + 1) [Value.int .i64 0, Value.int .i64 0, Value.int .i64 0, Value.string { data := #[] }, Value.string { data := #[] }, Value.bool false] (anV a') rfl rfl (C3.out.only ho2 (by omega)) rfl (by kernel_rfl) (anV_one _) ?_; intro w3 hB3 ho3))
  have E2 := st_cells (hB2.only ho3 (by omega))
  have E3 := an_cells hB3
  obtain ⟨c0, c1⟩ := E2
  obtain ⟨d0, d1, d2, d3, d4, d5⟩ := E3
  go_wp2
  refine bodyPost_ret (v := .tuple #[stA s', anA a']) (by simp [results, Try.f21, go_sem, c0, c1, d0, d1, d2, d3, d4, d5]; exact ⟨rfl, rfl⟩) rfl ⟨rfl, ?_⟩
  have G1 := below_step (below4 _ _ _ _ _) hb
  exact Only.below_step (Nat.le_trans G1.size ho2.size) (Only.below_step G1.size G1 ho2 (by intro i hi e; omega)) ho3 (by intro i hi e; omega)

/-- The machine that the statements hand in. -/
abbrev fn8 (f : Nat) : Value := .func (.func f) #[] #[]
def mV (s : StZ) : List Value := [numV s.n, .string s.slot, fn8 21, fn8 22]
abbrev mA (s : StZ) : Value := .agg (mV s).toArray
theorem law_machine (w : World) : Calls Try.prog 10 #[] w fun e w' => e = .returned (mA st0) ∧ Below w.heap.size w w' := by
  go_enter Try.func10, Try.ntmps10
  go_wp2_with (first | (with_reducible show wpList _ _ _ (⟨none, _, _, _, _, _⟩ :: _) _ _; refine wpList_store_new rfl 44 _ _ rfl #[.int .i64 0, .string { data := #[] }, .nilFunc, .nilFunc] #[.int .i64 0, .string { data := #[] }, .func (.func 21) #[] #[], .func (.func 22) #[] #[]] rfl rfl (by kernel_rfl) rfl (by simp [Value.oneCell']) ?_))
  refine bodyPost_ret (v := mA st0) (by simp [results, Try.f10, go_sem]; rfl) rfl ⟨rfl, (Below.refl _ _).alloc (Nat.le_refl _) _⟩

theorem lin_standsFor (a b : CallZ) (w : World) : Calls Try.prog 47 #[callA a, callA b] w fun e w' => e = .returned (.bool (stands a b)) ∧ Below w.heap.size w w' := by
  have hq1 := eql_op a.op b.op
  have hq2 := eql_an a.an b.an
  obtain ⟨ath, apl, aop, aan, afr, ato⟩ := a
  obtain ⟨bth, bpl, bop, ban, bfr, bto⟩ := b
  simp only [callA, callV, stands, opA, opV, anA, anV] at hq1 hq2 ⊢
  have G : ∀ p q : Obj, Below w.heap.size w ((w.alloc p).alloc q) := fun p q => ((Below.refl _ _).alloc (Nat.le_refl _) _).alloc (by simp) _
  by_cases h1 : aop = bop
  · by_cases h2 : aan = ban
    · have d1 : decide (aop = bop) = true := by simp [h1]
      have d2 : decide (aan = ban) = true := by simp [h2]
      go_enter Try.func47, Try.ntmps47
      go_wp2
      go_ret
      exact ⟨by rw [d1, d2]; rfl, G _ _⟩
    · have d1 : decide (aop = bop) = true := by simp [h1]
      have d2 : decide (aan = ban) = false := by simp [h2]
      go_enter Try.func47, Try.ntmps47
      go_wp2
      go_ret
      exact ⟨by rw [d1, d2]; rfl, G _ _⟩
  · have d1 : decide (aop = bop) = false := by simp [h1]
    go_enter Try.func47, Try.ntmps47
    go_wp2
    go_ret
    exact ⟨by rw [d1]; rfl, G _ _⟩

end Go.Proofs.Ythngehpmoiojfaa
