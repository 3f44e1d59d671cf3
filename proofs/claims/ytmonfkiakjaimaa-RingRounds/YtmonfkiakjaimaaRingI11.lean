/- Layer 11 (package ring, of ints): rings in memory; what only reads. -/
import Derived.Test.YtmonfkiakjaimaaRingM11
import Derived.Deep.RegionWith
namespace Go.Proofs.Ytmonfkiakjaimaa
open Go.RowKit

/-- A ring at B, its slots at S. -/
structure RgIs (w : World) (B S : Nat) (x : Rg) : Prop where
  blk : Blk 44 w B [.slice (some ⟨S, 0, none⟩) x.n x.n, .int .i64 (x.p : Int), .int .i64 (x.g : Int), .int .i64 (x.d : Int)]
  row : Blk 46 w S ((slotsZ x).flatMap slV)
  ok : RgOk x
def RgBlk (B S k : Nat) : Prop := k = B ∨ k = S
section
variable {w w' : World} {B S : Nat} {x : Rg}
theorem RgIs.apart (h : RgIs w B S x) : S ≠ B := blk_ne10 h.row h.blk (by decide)
theorem RgIs.lt (h : RgIs w B S x) {k : Nat} (hk : RgBlk B S k) : k < w.heap.size := by
  rcases hk with rfl | rfl
  · exact h.blk.lt
  · exact h.row.lt
theorem RgIs.only {T : Nat → Prop} (h : RgIs w B S x) (ho : Only T w w') (hT : ∀ k, RgBlk B S k → ¬ T k) : RgIs w' B S x :=
  ⟨h.blk.only ho (hT B (.inl rfl)), h.row.only ho (hT S (.inr rfl)), h.ok⟩
theorem RgIs.below (h : RgIs w B S x) (hb : Below w.heap.size w w') : RgIs w' B S x := h.only (Only.of_below hb (fun _ => False)) (fun _ _ h => h)
theorem RgIs.drewN (h : RgIs w B S x) (n : Nat) : RgIs (w.drewN n) B S x := h.below (below_draws (Below.refl _ _) n)
/-- A slot's cells. -/
theorem RgIs.at (h : RgIs w B S x) {i : Nat} (hi : i < x.n) : w.cell? ⟨S, i * 2, none⟩ = some (numV (slotZ x i).1) ∧ w.cell? ⟨S, i * 2 + 1, none⟩ = some (numV (slotZ x i).2) ∧ (∀ k, w.frozen? ⟨S, k, none⟩ = false) ∧ w.there S (i * 2) 2 := by
  refine ⟨h.row.at (flat_at (j := 0) slV_len (slots_at hi) rfl), h.row.at (flat_at (j := 1) slV_len (slots_at hi) rfl), h.row.frozen, blk_lies h.row ?_⟩
  rw [flat2_len, slots_len]
  omega
end

theorem rg_empty (k : Nat) (hk : k ≤ 1000000000) (w : World) : Calls Try.prog 21 #[.int .i64 (k : Int)] w fun e w' => e = .returned (.int .i64 (2 * (k : Int))) ∧ w = w' := by
  have h1 : (k : Int) ≤ 1000000000 := by omega
  go_enter Try.func21, Try.ntmps21
  go_wp2
  go_ret
  simp
theorem rg_filled (k : Nat) (hk : k ≤ 1000000000) (w : World) : Calls Try.prog 23 #[.int .i64 (k : Int)] w fun e w' => e = .returned (.int .i64 (2 * (k : Int) + 1)) ∧ w = w' := by
  have h1 : (k : Int) ≤ 1000000000 := by omega
  have E := Lib.hid (rg_empty k hk w)
  go_enter Try.func23, Try.ntmps23
  go_wp2_with fail
  refine E.out.mono ?_
  rintro e w' ⟨rfl, rfl⟩
  go_wp2
  go_ret
  simp

def limR (k : Int) : Nat := (min (max k 1) 1024).toNat
def newSl (m k : Nat) : List (Int × Int) := (List.range m).map fun (i : Nat) => ((0 : Int), if i < k then 2 * (i : Int) else 0)
theorem newSl_len (m k : Nat) : (newSl m k).length = m := by simp [newSl]
theorem newSl_zero (m : Nat) : newSl m 0 = List.replicate m (0, 0) := by
  apply List.ext_getElem (by simp [newSl])
  intro i h1 h2
  simp [newSl]
theorem newSl_all (m : Nat) : newSl m m = slotsZ ⟨m, 0, 0, []⟩ := by
  rw [slots_new]
  apply List.ext_getElem (by simp [newSl])
  intro i h1 h2
  simp [newSl] at h1 ⊢
  omega
theorem newSl_at {m k : Nat} (hk : k < m) : (newSl m k)[k]? = some (0, 0) := by simp [newSl, hk]
theorem newSl_set (m k : Nat) : newSl m (k + 1) = (newSl m k).set k (0, 2 * (k : Int)) := by
  apply List.ext_getElem (by simp [newSl])
  intro i h1 h2
  rw [List.getElem_set]
  simp only [newSl, List.getElem_map, List.getElem_range]
  by_cases e : k = i
  · subst e; simp
  · rw [if_neg e]
    by_cases h : i < k
    · simp [h, Nat.lt_succ_of_lt h]
    · have h3 : ¬ i < k + 1 := by omega
      simp [h, h3]
/-- While a ring is made. -/
structure NewSt (w wr : World) (m k : Nat) : Prop where
  blk : Blk 44 wr (w.heap.size + 1) [.slice (some ⟨w.heap.size, 0, none⟩) m m, .int .i64 0, .int .i64 0, .int .i64 0]
  row : Blk 46 wr w.heap.size ((newSl m k).flatMap slV)
  bel : Below w.heap.size w wr
theorem NewSt.drew {w wr : World} {m k : Nat} (h : NewSt w wr m k) (n : Nat) : NewSt w (wr.drewN n) m k := ⟨h.blk.drewN n, h.row.drewN n, below_draws h.bel n⟩
theorem NewSt.step {w wr : World} {m k : Nat} (h : NewSt w wr m k) (hk : k < m) : NewSt w (wr.setCell ⟨w.heap.size, k * 2 + 1, none⟩ (.int .i64 (2 * (k : Int)))) m (k + 1) := by
  refine ⟨h.blk.setOther (by omega) _ _, ?_, h.bel.setCell (p := ⟨w.heap.size, k * 2 + 1, none⟩) (Nat.le_refl _) _⟩
  have := h.row.set (k * 2 + 1) (.int .i64 (2 * (k : Int)))
  rw [newSl_set, ← sl_turn2 (newSl_at hk)]
  exact this
theorem NewSt.is {w wr : World} {m : Nat} (h : NewSt w wr m m) (h1 : 1 ≤ m) (h2 : m ≤ 1024) : RgIs wr (w.heap.size + 1) w.heap.size ⟨m, 0, 0, []⟩ :=
  ⟨h.blk, by rw [← newSl_all]; exact h.row, ⟨h1, h2, by simp⟩⟩
theorem infoSlot : (Try.prog.info? 46).map (fun i => (i.zero, i.size, i.bytes)) = some (some (.agg #[.int .i64 0, .int .i64 0]), 2, 16) := by kernel_rfl
set_option maxHeartbeats 1000000 in
theorem rg_New (k : Int) (w : World) : Calls Try.prog 8 #[.int .i64 k] w fun e w' => e = .returned (.pointer (some ⟨w.heap.size + 1, 0, none⟩)) ∧ RgIs w' (w.heap.size + 1) w.heap.size ⟨limR k, 0, 0, []⟩ ∧ Below w.heap.size w w' := by
  obtain ⟨m, hm⟩ : ∃ m, limR k = m := ⟨_, rfl⟩
  rw [hm]
  have hm1 : 1 ≤ m := by unfold limR at hm; omega
  have hm2 : m ≤ 1024 := by unfold limR at hm; omega
  have hmk := run_make_recs (P := Try.prog) Try.underlying42 infoSlot m (by omega) (by omega) w
  have F := recRow_made (c := 2) (f := slV) (z := (Value.agg #[.int .i64 0, .int .i64 0]).cells) (0, 0) rfl rfl m
  generalize madeCells (Value.agg #[.int .i64 0, .int .i64 0]).cells (m * 2) = M at hmk F
  have ST0 : NewSt w ((w.alloc (.cells M 46)).alloc (.cells #[.slice (some ⟨w.heap.size, 0, none⟩) m m, .int .i64 0, .int .i64 0, .int .i64 0] 44)) m 0 := by
    have hb : Blk 46 (w.alloc (.cells M 46)) w.heap.size M.toList := Blk.new (l := M.toList)
    refine ⟨?_, ?_, ((Below.refl _ _).alloc (Nat.le_refl _) _).alloc (by simp) _⟩
    · have := Blk.new (t := 44) (W := w.alloc (.cells M 46)) (l := [.slice (some ⟨w.heap.size, 0, none⟩) m m, .int .i64 0, .int .i64 0, .int .i64 0])
      simpa using this
    · rw [newSl_zero, ← F.flat (by decide) slV_len]
      exact hb.alloc _
  have ST := Lib.hid ST0
  clear F ST0
  obtain ⟨z, hz⟩ : ∃ z : Int, z = (m : Int) := ⟨_, rfl⟩
  rw [← hz] at hmk
  have hc : (k < 1 ∧ z = 1) ∨ (1 ≤ k ∧ k ≤ 1024 ∧ k = z) ∨ (1024 < k ∧ z = 1024) := by unfold limR at hm; omega
  have TL := Lib.hid (show ∀ wr, NewSt w wr m m → RgIs wr (w.heap.size + 1) w.heap.size ⟨m, 0, 0, []⟩ ∧ Below w.heap.size w wr from fun wr h => ⟨h.is hm1 hm2, h.bel⟩)
  have hm3 : (m : Int) ≤ 1024 := by omega
  clear hm hz
  rcases hc with ⟨h1, rfl⟩ | ⟨h1, h2, rfl⟩ | ⟨h1, rfl⟩
  all_goals
    go_enter Try.func8, Try.ntmps8
    go_upto_region 2 with fail
    generalize (w.alloc (.cells M 46)).alloc (.cells #[.slice (some ⟨w.heap.size, 0, none⟩) m m, .int .i64 0, .int .i64 0, .int .i64 0] 44) = w0 at *
    have c0 := ST.out.blk.at (o := 0) rfl
    clear hmk
    go_wp2
    go_loopw [4, 16] (fun _ i wr => ∃ j : Nat, j ≤ m ∧ i = .int .i64 j ∧ Hid (NewSt w wr m j)) (fun _ i _ => m - (intOf i).toNat)
    case atStart => exact ⟨0, Nat.zero_le _, rfl, ST⟩
    case round =>
      obtain ⟨j, hj, rfl, HS⟩ := hrel
      by_cases hjl : j < m
      · have E := Lib.hid (fun W => rg_empty j (by omega) W)
        have c1 := HS.out.blk.at (o := 0) rfl
        have c2 := HS.out.row.at (flat_at (j := 1) slV_len (newSl_at hjl) rfl)
        have f2 := HS.out.row.frozen (j * 2 + 1)
        go_upto_region 5 with fail
        go_region_with (go_at_call 21; refine (E.out _).mono ?_; rintro e w9 ⟨rfl, rfl⟩)
        all_goals
          go_wp2
          go_roundw
          case rel => exact ⟨j + 1, by omega, by go_num, Lib.hid ((HS.out.drew 1).step hjl)⟩
          case measure => simp [intOf]; omega
      · obtain rfl : j = m := by omega
        go_wp2
        go_ret
        exact ⟨rfl, TL.out _ HS.out⟩

end Go.Proofs.Ytmonfkiakjaimaa
