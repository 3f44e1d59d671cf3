/- What the program's layer 3 (package set) comes to, at numbers: contracts over the program's text. -/
import Derived.Test.YtabgedmocdjkcaaProg
import Derived.Test.YtabgedmocdjkcaaJoin1
import Derived.Test.YtabgedmocdjkcaaSets3
import Derived.Test.YtabgedmocdjkcaaJoin4
import Derived.Test.YtabgedmocdjkcaaRepl3
import Derived.Lib.Hide
import Derived.WalkKit
namespace Go.Proofs.Ytabgedmocdjkcaa
open Go.RowKit Go.Shelf

/-- A set of numbers: its values rising, each once. -/
def SetIn (W : World) (v : Value) (L : List Int) : Prop := (∃ s, v = .agg #[s] ∧ NumsIn W s L) ∧ Up L
theorem SetIn.below {W W' : World} {v : Value} {L : List Int} (h : SetIn W v L) (hb : Below W.heap.size W W') : SetIn W' v L := by
  obtain ⟨⟨s, hv, hs⟩, hu⟩ := h
  exact ⟨⟨s, hv, hs.below hb⟩, hu⟩
theorem search_yes (s : Value) (L : List Int) (x : Int) (w : World) (hs : NumsIn w s L) (hu : Up L) (hbig : L.length ≤ 1000000) (hx : x ∈ L) :
    Calls Try.prog 75 #[s, .int .i64 x] w fun e w' => e = .returned (.tuple #[.int .i64 (plc (ltB x) L : Nat), .bool true]) ∧ w = w' :=
  (search_nums s L x w hs hu hbig).mono fun e w' h => by rw [decide_eq_true hx] at h; exact h
theorem search_no (s : Value) (L : List Int) (x : Int) (w : World) (hs : NumsIn w s L) (hu : Up L) (hbig : L.length ≤ 1000000) (hx : x ∉ L) :
    Calls Try.prog 75 #[s, .int .i64 x] w fun e w' => e = .returned (.tuple #[.int .i64 (plc (ltB x) L : Nat), .bool false]) ∧ w = w' :=
  (search_nums s L x w hs hu hbig).mono fun e w' h => by rw [decide_eq_false hx] at h; exact h

theorem set_Len (v : Value) (L : List Int) (w : World) (h : SetIn w v L) :
    Calls Try.prog 36 #[v] w fun e w' => e = .returned (.int .i64 (L.length : Int)) ∧ Below w.heap.size w w' := by
  obtain ⟨⟨s, rfl, hs⟩, hu⟩ := h
  rcases hs.2 with ⟨rfl, h0⟩ | ⟨b, off, cap, rfl, _, _, hc⟩
  · rw [h0]
    go_enter Try.func36, Try.ntmps36
    go_wp2
    go_ret
    exact ⟨rfl, (Below.refl _ _).alloc (Nat.le_refl _) _⟩
  · go_enter Try.func36, Try.ntmps36
    go_wp2
    go_ret
    exact ⟨rfl, (Below.refl _ _).alloc (Nat.le_refl _) _⟩

theorem cellsAt_new (W : World) (v : Value) (t : TypeId) : CellsAt (W.alloc (.cells #[v] t)) W.heap.size 0 [v] := by
  intro j u hu
  cases j with
  | zero =>
    obtain rfl : v = u := by simpa using hu
    simp
  | succ j => simp at hu
theorem cellsAt_block (W : World) (cs : List Value) (t : TypeId) : CellsAt (W.alloc (.cells cs.toArray t)) W.heap.size 0 cs :=
  cellsAt_of_heap (t := t) (by show (W.heap.push _)[W.heap.size]? = _; simp)
/-- Three new blocks: a box, the result's, and what is handed on. -/
theorem three (w : World) (o1 : Obj) (r : Value) (t2 : TypeId) (cs : List Value) (t3 : TypeId) : ∃ W, ((w.alloc o1).alloc (.cells #[r] t2)).alloc (.cells cs.toArray t3) = W ∧ Below w.heap.size w W ∧ W.heap.size = w.heap.size + 3 ∧ CellsAt W (w.heap.size + 1 + 1) 0 cs ∧
    W.cell? ⟨w.heap.size + 1, 0, none⟩ = some r ∧ W.frozen? ⟨w.heap.size + 1, 0, none⟩ = false := by
  have h1 : Below w.heap.size w (w.alloc o1) := (Below.refl _ _).alloc (Nat.le_refl _) _
  have h2 : Below w.heap.size w ((w.alloc o1).alloc (.cells #[r] t2)) := h1.alloc (by simp) _
  have h3 : Below w.heap.size w (((w.alloc o1).alloc (.cells #[r] t2)).alloc (.cells cs.toArray t3)) := h2.alloc (by simp; omega) _
  have hb : Below (w.heap.size + 2) ((w.alloc o1).alloc (.cells #[r] t2)) (((w.alloc o1).alloc (.cells #[r] t2)).alloc (.cells cs.toArray t3)) := (Below.refl _ _).alloc (by simp) _
  refine ⟨_, rfl, h3, by simp, ?_, ?_, ?_⟩
  · have := cellsAt_block ((w.alloc o1).alloc (.cells #[r] t2)) cs t3
    simpa using this
  · rw [hb.cell (p := ⟨w.heap.size + 1, 0, none⟩) (by show w.heap.size + 1 < w.heap.size + 2; omega)]
    simp
  · rw [hb.frozen (p := ⟨w.heap.size + 1, 0, none⟩) (by show w.heap.size + 1 < w.heap.size + 2; omega)]
    simp
theorem num_one (L : List Int) : ∀ v ∈ L.map numV, v.oneCell' = true := fun v hv => by
  obtain ⟨x, _, rfl⟩ := List.mem_map.1 hv
  rfl
theorem put_cells (x : Int) (L : List Int) (p q : Nat) : (L.map numV).take p ++ ([numV x] ++ (L.map numV).drop q) = (L.take p ++ x :: L.drop q).map numV := by simp [List.map_take, List.map_drop]
theorem cut_cells (L : List Int) (p q : Nat) : (L.map numV).take p ++ ([] ++ (L.map numV).drop q) = (L.take p ++ L.drop q).map numV := by simp [List.map_take, List.map_drop]
/-- A list that lies in a block of its own, behind a store elsewhere. -/
theorem nums_made {W : World} {g : Nat} {M : List Int} {N : Nat} (hN : N = M.length) (hg : g < W.heap.size) (hc : CellsAt W g 0 (M.map numV)) (p : Addr) (u : Value) (hp : p.block ≠ g) : NumsIn (W.setCell p u) (.slice (some ⟨g, 0, none⟩) N N) M := by
  subst hN
  refine ⟨by simp, .inr ⟨g, 0, _, rfl, Nat.le_refl _, by simpa [World.setCell] using hg, fun j v hv => ?_⟩⟩
  have := hc j v hv
  rw [← this]
  exact World.cell?_of_block (w := W) (Below.heap_setCell _ _ _ _ (fun e => hp (Eq.symm e)))

/-- What comes is what was there, or lies in a block made since. -/
def Apart (n : Nat) (v r : Value) : Prop := r = v ∨ ∃ g N, n ≤ g ∧ r = .agg #[.slice (some ⟨g, 0, none⟩) N N]

set_option maxRecDepth 100000 in
theorem set_With0 (v : Value) (L : List Int) (x : Int) (w : World) (h : SetIn w v L) (hbig : L.length ≤ 1000000) :
    Calls Try.prog 58 #[v, .int .i64 x] w fun e w' => ∃ r, e = .returned r ∧ SetIn w' r (withZ x L) ∧ Below w.heap.size w w' ∧ Apart w.heap.size v r := by
  obtain ⟨⟨s, rfl, hs⟩, hu⟩ := h
  have hB : ∀ o o', Below w.heap.size w ((w.alloc o).alloc o') := fun o o' => ((Below.refl _ _).alloc (Nat.le_refl _) _).alloc (by simp) _
  by_cases hx : x ∈ L
  · have HS : Hid (SetIn w (.agg #[s]) (withZ x L)) := (show SetIn _ _ _ from ⟨⟨s, rfl, (put_old hu hx) ▸ hs⟩, up_withZ hu⟩)
    rcases hs.2 with ⟨rfl, h0⟩ | ⟨b, off, cap, rfl, _, _, hc⟩
    all_goals
      go_enter Try.func58, Try.ntmps58
      go_wp2_with fail
      refine (search_yes _ L x _ (hs.below (hB _ _)) hu hbig hx).mono ?_
      rintro e w' ⟨rfl, rfl⟩
      go_wp2
      exact bodyPost_ret (by simp [results, Try.f58, go_sem]) rfl ⟨_, rfl, HS.out.below (hB _ _), hB _ _, .inl rfl⟩
  · have HP := Lib.hid (put_new hu hx)
    have hp := plc_le (ltB x) L
    rcases hs.2 with ⟨rfl, h0⟩ | ⟨b, off, cap, rfl, hcap, hb, hc⟩
    · obtain rfl : L = [] := List.eq_nil_of_length_eq_zero h0
      have HQ := Lib.hid (show plc (ltB x) [] = 0 from rfl)
      have h1 := search_no (.slice none 0 0) [] x
      rw [HQ.out] at h1
      go_enter Try.func58, Try.ntmps58
      go_wp2_with fail
      refine (h1 _ (hs.below (hB _ _)) hu hbig hx).mono ?_
      rintro e w' ⟨rfl, rfl⟩
      go_wp2_with fail
      obtain ⟨W3, hW, b3, z3, c3, r3, f3⟩ := three w (.cells #[.slice none 0 0] 60) (.slice none 0 0) 60 [numV x] 3
      rw [hW]
      refine (repl_ints_new (w.heap.size + 1 + 1) [numV x] W3 rfl (by omega) c3 (by simp [Value.oneCell'])).mono ?_
      rintro e w4 ⟨N, rfl, hN, hB4, hg4, hc4⟩
      have k1 := (hB4.cell (p := ⟨w.heap.size + 1, 0, none⟩) (by show w.heap.size + 1 < W3.heap.size; omega)).trans r3
      have k2 := (hB4.frozen (p := ⟨w.heap.size + 1, 0, none⟩) (by show w.heap.size + 1 < W3.heap.size; omega)).trans f3
      have B4 := Lib.hid (b3.trans (hB4.mono b3.size))
      have C4 := Lib.hid hc4
      have HW := Lib.hid z3
      clear hc4 hW b3 hB4 z3 c3
      go_wp2
      refine bodyPost_ret (by simp [results, Try.f58, go_sem, k1]; first | rfl | exact ⟨rfl, rfl⟩) rfl ⟨_, rfl, ⟨⟨_, rfl, ?_⟩, up_withZ hu⟩, B4.out.setCell (p := ⟨w.heap.size + 1, 0, none⟩) (by show w.heap.size ≤ w.heap.size + 1; omega) _, .inr ⟨_, _, by have := HW.out; omega, rfl⟩⟩
      exact nums_made (M := withZ x []) (N := 1) rfl hg4 C4.out ⟨w.heap.size + 1, 0, none⟩ _ (by have := HW.out; show w.heap.size + 1 ≠ W3.heap.size; omega)
    · go_enter Try.func58, Try.ntmps58
      go_wp2_with fail
      refine (search_no _ L x _ (hs.below (hB _ _)) hu hbig hx).mono ?_
      rintro e w' ⟨rfl, rfl⟩
      go_wp2_with fail
      obtain ⟨W3, hW, b3, z3, c3, r3, f3⟩ := three w (.cells #[.slice (some ⟨b, off, none⟩) L.length cap] 60) (.slice none 0 0) 60 [numV x] 3
      rw [hW]
      refine (repl_ints_put b off L.length cap (plc (ltB x) L) (L.map numV) (plc (ltB x) L) (w.heap.size + 1 + 1) [numV x] W3 (by simp) hcap (by omega) (hc.below b3 hb) hbig (num_one L) rfl (by omega) c3 (by simp [Value.oneCell']) (Nat.le_refl _) hp).mono ?_
      rintro e w4 ⟨N, rfl, hN, hB4, hg4, hc4⟩
      rw [put_cells, HP.out] at hc4
      have hN' : N = (withZ x L).length := by rw [← HP.out, hN]; simp; omega
      have k1 := (hB4.cell (p := ⟨w.heap.size + 1, 0, none⟩) (by show w.heap.size + 1 < W3.heap.size; omega)).trans r3
      have k2 := (hB4.frozen (p := ⟨w.heap.size + 1, 0, none⟩) (by show w.heap.size + 1 < W3.heap.size; omega)).trans f3
      have B4 := Lib.hid (b3.trans (hB4.mono b3.size))
      have C4 := Lib.hid hc4
      have HW := Lib.hid z3
      have HN := Lib.hid hN'
      clear hc4 hW b3 hB4 z3 c3 hN hN'
      go_wp2
      refine bodyPost_ret (by simp [results, Try.f58, go_sem, k1]; first | rfl | exact ⟨rfl, rfl⟩) rfl ⟨_, rfl, ⟨⟨_, rfl, ?_⟩, up_withZ hu⟩, B4.out.setCell (p := ⟨w.heap.size + 1, 0, none⟩) (by show w.heap.size ≤ w.heap.size + 1; omega) _, .inr ⟨_, _, by have := HW.out; omega, rfl⟩⟩
      exact nums_made (M := withZ x L) HN.out hg4 C4.out ⟨w.heap.size + 1, 0, none⟩ _ (by have := HW.out; show w.heap.size + 1 ≠ W3.heap.size; omega)

theorem set_With (v : Value) (L : List Int) (x : Int) (w : World) (h : SetIn w v L) (hbig : L.length ≤ 1000000) :
    Calls Try.prog 58 #[v, .int .i64 x] w fun e w' => ∃ r, e = .returned r ∧ SetIn w' r (withZ x L) ∧ Below w.heap.size w w' :=
  (set_With0 v L x w h hbig).mono fun _ _ ⟨r, h1, h2, h3, _⟩ => ⟨r, h1, h2, h3⟩

theorem two (w : World) (o1 : Obj) (r : Value) (t2 : TypeId) : ∃ W, (w.alloc o1).alloc (.cells #[r] t2) = W ∧ Below w.heap.size w W ∧ W.heap.size = w.heap.size + 2 ∧
    W.cell? ⟨w.heap.size + 1, 0, none⟩ = some r ∧ W.frozen? ⟨w.heap.size + 1, 0, none⟩ = false := by
  have h1 : Below w.heap.size w (w.alloc o1) := (Below.refl _ _).alloc (Nat.le_refl _) _
  have h2 : Below w.heap.size w ((w.alloc o1).alloc (.cells #[r] t2)) := h1.alloc (by simp) _
  exact ⟨_, rfl, h2, by simp, by simp, by simp⟩

end Go.Proofs.Ytabgedmocdjkcaa
