/- set.Of at numbers: by the library's contracts of Clone, Sort and Compact. -/
import Derived.Test.YtmfejpbijllojaaGreatLay3
import Derived.Test.YtmfejpbijllojaaGreatSet3
import Derived.Sort.OwnSortedInts
import Derived.Lib.OwnBridge
import Derived.Sort.Grow
namespace Go.Proofs.YtmfejpbijllojaaGreat
open Go.RowKit Go.Shelf Go.Sort

/-- A slice of numbers as it comes in. -/
def ArgIn (W : World) (v : Value) (L : List Int) : Prop := ∃ a cap, v = .slice a L.length cap ∧ (L ≠ [] → ∃ b off, a = some ⟨b, off, none⟩ ∧ b < W.heap.size ∧ CellsAt W b off (L.map numV))
theorem ArgIn.below {W W' : World} {v : Value} {L : List Int} (h : ArgIn W v L) (hb : Below W.heap.size W W') : ArgIn W' v L := by
  obtain ⟨a, cap, hv, h⟩ := h
  refine ⟨a, cap, hv, fun hL => ?_⟩
  obtain ⟨b, off, ha, hlt, hc⟩ := h hL
  exact ⟨b, off, ha, Nat.lt_of_lt_of_le hlt hb.size, hc.below hb hlt⟩
theorem NumsIn.arg {W : World} {v : Value} {L : List Int} (h : NumsIn W v L) : ArgIn W v L := by
  rcases h.2 with ⟨rfl, h0⟩ | ⟨b, off, cap, rfl, h1, h2, h3⟩
  · obtain rfl : L = [] := List.eq_nil_of_length_eq_zero h0
    exact ⟨none, 0, rfl, fun h => absurd rfl h⟩
  · exact ⟨_, cap, rfl, fun _ => ⟨b, off, rfl, h2, h3⟩⟩

theorem clone_nums (b off c : Nat) (L : List Int) (w : World) (hbig : L.length ≤ 1000000) (hc : CellsAt w b off (L.map numV)) :
    Calls Tryz.prog 57 #[.slice (some ⟨b, off, none⟩) L.length c] w fun e w' => ∃ v', e = .returned v' ∧ w'.ownsRow w.heap.size 3 1 v' L.length (L.map (Value.int .i64)) ∧ v' ≠ .slice none 0 0 ∧ Below w.heap.size w w' := by
  have h := AnyG.slices_Clone_int layClone b off L.length c L w (Nat.le_refl _) (by omega) (cells_num hc)
  rw [List.take_length] at h
  exact h
theorem clone_nil (n c : Nat) (w : World) : Calls Tryz.prog 57 #[.slice none n c] w fun e w' => e = .returned (.slice none 0 0) ∧ w' = w := AnyG.slices_Clone_int_nil layClone n c w
theorem clone_zero (a : Addr) (c : Nat) (w : World) : Calls Tryz.prog 57 #[.slice (some a) 0 c] w fun e w' => ∃ v', e = .returned v' ∧ w'.ownsRow w.heap.size 3 1 v' 0 [] ∧ v' ≠ .slice none 0 0 ∧ Below w.heap.size w w' := AnyG.slices_Clone_int_zero layClone a c w
theorem sort_nums (blk off cap : Nat) (zs : List Int) (w : World) (hH : Holds (Value.int .i64) w blk off zs.toArray) (hblk : blk < w.heap.size) (hsz : zs.length < 4611686018427387904) :
    Calls Tryz.prog 58 #[.slice (some ⟨blk, off, none⟩) zs.length cap] w fun e w' =>
      e = .returned (.tuple #[]) ∧ ∃ n os, w' = grow (putRow (Value.int .i64) (Sort.ahead w n) blk off (zs.mergeSort fun x y => decide (x ≤ y)).toArray) os := AnyM.slices_Sort_int laySort blk off cap zs w hH hblk hsz
theorem sort_none (p : Option Addr) (cap : Nat) (w : World) : Calls Tryz.prog 58 #[.slice p 0 cap] w fun e w' => e = .returned (.tuple #[]) ∧ w' = w := AnyM.slices_Sort_int_none laySort p cap w
theorem compact_nums (blk off cap : Nat) (zs : List Int) (w : World) (hH : Holds (Value.int .i64) w blk off zs.toArray) (hsz : zs.length ≤ 9223372036854775807) (hcap : zs.length ≤ cap) :
    Calls Tryz.prog 59 #[.slice (some ⟨blk, off, none⟩) zs.length cap] w fun e w' => e = .returned (.slice (some ⟨blk, off, none⟩) (Lib.compact zs).length cap) ∧ ∃ q, w' = putRow (Value.int .i64) (Sort.ahead w q) blk off (Lib.compact zs ++ List.replicate (zs.length - (Lib.compact zs).length) 0).toArray :=
  AnyG.slices_Compact_int layCompact blk off cap zs w hH hsz hcap
theorem compact_none (a : Option Addr) (cap : Nat) (w : World) : Calls Tryz.prog 59 #[.slice a 0 cap] w fun e w' => e = .returned (.slice a 0 cap) ∧ w' = w := AnyG.slices_Compact_int_empty layCompact a cap w

/-- slices.Sort of a slice of the call's own. -/
theorem sort_own (B g cap : Nat) (L : List Int) (w w1 : World) (hown : w1.ownsRow B 3 1 (.slice (some ⟨g, 0, none⟩) L.length cap) L.length (L.map (Value.int .i64))) (hbig : L.length ≤ 1000000) (hB : Below B w w1) (hBs : B ≤ w1.heap.size) :
    Calls Tryz.prog 58 #[.slice (some ⟨g, 0, none⟩) L.length cap] w1 fun e w' => e = .returned (.tuple #[]) ∧
      w'.ownsRow B 3 1 (.slice (some ⟨g, 0, none⟩) L.length cap) L.length ((L.mergeSort fun x y => decide (x ≤ y)).map (Value.int .i64)) ∧ Below B w w' := by
  obtain ⟨g', cap', hv, hBg, hgl, hnc, hcm, hlen, hH⟩ := Lib.holds_of_ownsRow hown (by simp)
  cases hv
  refine (sort_nums g 0 cap L w1 hH hgl (by omega)).mono ?_
  rintro e w' ⟨rfl, n, os, rfl⟩
  rcases hown.2 with ⟨h0, _⟩ | ⟨g', cap', cur, hv, hbase, hb, h1, h2, h3, h4⟩
  · cases h0
  cases hv
  have hl2 : (L.mergeSort fun x y => decide (x ≤ y)).length = L.length := List.length_mergeSort L
  exact ⟨rfl, ownsRow_sortedI (n := n) (os := os) hl2 hbase hb h1 h2 h3, hB.grown (grownBy_sortedI _) hBs (fun j hj => by cases hj; exact hbase)⟩
/-- slices.Compact of a slice of the call's own. -/
theorem compact_own (B g cap n : Nat) (M : List Int) (w w1 : World) (hn : M.length = n) (hown : w1.ownsRow B 3 1 (.slice (some ⟨g, 0, none⟩) n cap) n (M.map (Value.int .i64))) (hbig : M.length ≤ 1000000) (hB : Below B w w1) :
    Calls Tryz.prog 59 #[.slice (some ⟨g, 0, none⟩) n cap] w1 fun e w' => e = .returned (.slice (some ⟨g, 0, none⟩) (Lib.compact M).length cap) ∧
      w'.ownsRow B 3 1 (.slice (some ⟨g, 0, none⟩) (Lib.compact M).length cap) (Lib.compact M).length ((Lib.compact M).map (Value.int .i64)) ∧ Below B w w' := by
  subst hn
  obtain ⟨g', cap', hv, hBg, hgl, hnc, hcm, hlen, hH⟩ := Lib.holds_of_ownsRow hown (by simp)
  cases hv
  refine (compact_nums g 0 cap M w1 hH (by omega) hnc).mono ?_
  rintro e w' ⟨rfl, q, rfl⟩
  have hle := Lib.compact_length_le M
  have h := Lib.ownsRow_putRow (q := q) (k := (Lib.compact M).length) (ys := Lib.compact M ++ List.replicate (M.length - (Lib.compact M).length) 0) hown (by simp; omega) hle
  rw [List.take_left] at h
  exact ⟨rfl, h, Lib.below_putRow hB hBg⟩

theorem one (w : World) (r : Value) (t2 : TypeId) : ∃ W, w.alloc (.cells #[r] t2) = W ∧ Below w.heap.size w W ∧ W.heap.size = w.heap.size + 1 ∧
    W.cell? ⟨w.heap.size, 0, none⟩ = some r ∧ W.frozen? ⟨w.heap.size, 0, none⟩ = false :=
  ⟨_, rfl, (Below.refl _ _).alloc (Nat.le_refl _) _, by simp, by simp, by simp⟩
theorem ofZ_nil : ofZ [] = [] := by simp [ofZ, Lib.compact, Lib.compactUpTo]
/-- What is owned from B on reads so behind a store into a block ahead of it. -/
theorem own_setCell {W : World} {B : Nat} {e : TypeId} {v : Value} {n : Nat} {xs : List Value} (h : W.ownsRow B e 1 v n xs) (p : Addr) (u : Value) (hp : p.block < B) : SliceK (W.setCell p u) 1 v n xs := by
  obtain ⟨h0, h1 | ⟨g, cap, cur, hv, h1, h2, h3, h4, h5, h6⟩⟩ := h
  · exact ⟨h0, .inl h1⟩
  · have hne : ∀ j, (W.setCell p u).cell? ⟨g, j, none⟩ = W.cell? ⟨g, j, none⟩ := fun j => World.cell?_of_block (w := W) (Below.heap_setCell _ _ _ _ (fun e => by have : g = p.block := e; omega))
    have hk := SliceK.of_own (W := W) (B := B) (e := e) (k := 1) (v := v) (n := n) (cs := xs) ⟨h0, .inr ⟨g, cap, cur, hv, h1, h2, h3, h4, h5, h6⟩⟩
    rcases hk.2 with ⟨e0, e1⟩ | ⟨b, off, cap', hv', e2, e3, e4⟩
    · exact ⟨h0, .inl ⟨e0, e1⟩⟩
    · rw [hv] at hv'
      cases hv'
      exact ⟨h0, .inr ⟨g, 0, cap, hv, h3, by simpa [World.setCell] using e3, fun j v hj => (hne _).trans (e4 j v hj)⟩⟩

set_option maxRecDepth 100000 in
set_option maxHeartbeats 1000000 in
theorem set_Of (v : Value) (L : List Int) (w : World) (h : ArgIn w v L) (hbig : L.length ≤ 1000000) :
    Calls Tryz.prog 36 #[v] w fun e w' => ∃ r, e = .returned r ∧ SetIn w' r (ofZ L) ∧ Below w.heap.size w w' := by
  obtain ⟨a, cap, rfl, ha⟩ := h
  by_cases hL : L = []
  · subst hL
    clear ha
    cases a with
    | none =>
      go_enter Tryz.func36, Tryz.ntmps36
      go_wp2_with fail
      obtain ⟨W1, hW, b1, z1, r1, f1⟩ := one w (.slice none 0 0) 46
      rw [hW]
      refine (clone_nil _ _ W1).mono ?_
      rintro e w' ⟨rfl, rfl⟩
      go_wp2_with fail
      refine (sort_none _ _ _).mono ?_
      rintro e w' ⟨rfl, rfl⟩
      go_wp2_with fail
      refine (compact_none _ _ _).mono ?_
      rintro e w' ⟨rfl, rfl⟩
      have B1 := Lib.hid b1
      clear hW b1 z1
      go_wp2
      refine bodyPost_ret (by simp [results, Tryz.f36, go_sem, r1]; rfl) rfl ⟨_, rfl, ⟨⟨_, rfl, by rw [ofZ_nil]; exact ⟨rfl, .inl ⟨rfl, rfl⟩⟩⟩, by rw [ofZ_nil]; exact List.Pairwise.nil⟩, B1.out.setCell (p := ⟨w.heap.size, 0, none⟩) (Nat.le_refl _) _⟩
    | some a =>
      go_enter Tryz.func36, Tryz.ntmps36
      go_wp2_with fail
      obtain ⟨W1, hW, b1, z1, r1, f1⟩ := one w (.slice none 0 0) 46
      rw [hW]
      refine (clone_zero _ _ W1).mono ?_
      rintro e w2 ⟨v', rfl, hown, hne, hB2⟩
      rcases hown.2 with ⟨h0, _⟩ | ⟨g, cap', cur, rfl, hbase, hb, h1, h2, h3, h4⟩
      · exact absurd h0 hne
      have k1 := (hB2.cell (p := ⟨w.heap.size, 0, none⟩) (by show w.heap.size < W1.heap.size; omega)).trans r1
      have k2 := (hB2.frozen (p := ⟨w.heap.size, 0, none⟩) (by show w.heap.size < W1.heap.size; omega)).trans f1
      have B2 := Lib.hid (b1.trans (hB2.mono b1.size))
      have O2 := Lib.hid hown
      have Z1 := Lib.hid z1
      clear hW b1 z1 hB2 hown hne hb h3 h4
      go_wp2_with fail
      refine (sort_none _ _ _).mono ?_
      rintro e w' ⟨rfl, rfl⟩
      go_wp2_with fail
      refine (compact_none _ _ _).mono ?_
      rintro e w' ⟨rfl, rfl⟩
      go_wp2
      refine bodyPost_ret (by simp [results, Tryz.f36, go_sem, k1]; rfl) rfl ⟨_, rfl, ⟨⟨_, rfl, ?_⟩, by rw [ofZ_nil]; exact List.Pairwise.nil⟩, B2.out.setCell (p := ⟨w.heap.size, 0, none⟩) (Nat.le_refl _) _⟩
      rw [ofZ_nil]
      exact own_setCell O2.out ⟨w.heap.size, 0, none⟩ _ (by have := Z1.out; show w.heap.size < W1.heap.size; omega)
  · obtain ⟨b, off, rfl, hb, hc⟩ := ha hL
    go_enter Tryz.func36, Tryz.ntmps36
    go_wp2_with fail
    obtain ⟨W1, hW, b1, z1, r1, f1⟩ := one w (.slice none 0 0) 46
    rw [hW]
    refine (clone_nums b off _ L W1 hbig (hc.below b1 hb)).mono ?_
    rintro e w2 ⟨v', rfl, hown, hne, hB2⟩
    obtain ⟨g, cap', rfl, hBg, hgl, hnc, hcm, hlen, _⟩ := Lib.holds_of_ownsRow hown hne
    have k1 := (hB2.cell (p := ⟨w.heap.size, 0, none⟩) (by show w.heap.size < W1.heap.size; omega)).trans r1
    have k2 := (hB2.frozen (p := ⟨w.heap.size, 0, none⟩) (by show w.heap.size < W1.heap.size; omega)).trans f1
    have B1 := Lib.hid b1
    have B2 := Lib.hid hB2
    have O2 := Lib.hid hown
    have Z1 := Lib.hid z1
    have R1 := Lib.hid r1
    have F1 := Lib.hid f1
    clear hW b1 z1 hB2 hown hne k1 k2 r1 f1
    go_wp2_with fail
    refine (sort_own W1.heap.size g cap' L W1 w2 O2.out hbig B2.out B2.out.size).mono ?_
    rintro e w3 ⟨rfl, o3, b3⟩
    have O3 := Lib.hid o3
    have B3 := Lib.hid b3
    clear o3 b3
    go_wp2_with fail
    refine (compact_own W1.heap.size g cap' L.length (L.mergeSort fun x y => decide (x ≤ y)) W1 w3 (List.length_mergeSort L) O3.out (by rw [List.length_mergeSort]; exact hbig) B3.out).mono ?_
    rintro e w4 ⟨rfl, o4, b4⟩
    have k1 := (b4.cell (p := ⟨w.heap.size, 0, none⟩) (by have := Z1.out; show w.heap.size < W1.heap.size; omega)).trans R1.out
    have k2 := (b4.frozen (p := ⟨w.heap.size, 0, none⟩) (by have := Z1.out; show w.heap.size < W1.heap.size; omega)).trans F1.out
    have O4 := Lib.hid o4
    have B4 := Lib.hid (B1.out.trans (b4.mono B1.out.size))
    clear o4 b4
    generalize hM : Lib.compact (L.mergeSort fun x y => decide (x ≤ y)) = M at *
    have HM := Lib.hid hM
    clear hM
    go_wp2
    refine bodyPost_ret (by simp [results, Tryz.f36, go_sem, k1]; rfl) rfl ⟨_, rfl, ⟨⟨_, rfl, ?_⟩, (ofZ_facts L).1⟩, B4.out.setCell (p := ⟨w.heap.size, 0, none⟩) (Nat.le_refl _) _⟩
    have hz : ofZ L = M := HM.out
    rw [hz]
    exact own_setCell O4.out ⟨w.heap.size, 0, none⟩ _ (by have := Z1.out; show w.heap.size < W1.heap.size; omega)

end Go.Proofs.YtmfejpbijllojaaGreat
