/- set.replaced: a copy of a list with one more, or one less. Made by tools/gen_repl.py. -/
import Derived.Test.YtabgedmocdjkcaaProg
import Derived.Test.YtabgedmocdjkcaaJoin1
import Derived.Test.YtabgedmocdjkcaaJoin4
import Derived.Lib.Hide
import Derived.IntWalk
import Derived.Deep.AppendLies
namespace Go.Proofs.Ytabgedmocdjkcaa
open Go.RowKit

theorem sizeInt : (Try.prog.info? 3).map (·.size) = some 1 := by kernel_rfl
theorem own_full {W : World} {B : Nat} {e : TypeId} {k g N : Nat} {xs : List Value} (h : W.ownsRow B e k (.slice (some ⟨g, 0, none⟩) N N) N xs) :
    ∃ Z : List Value, Z.length = N * k ∧ g < W.heap.size ∧ Hid (W.heap[g]? = some (.cells Z.toArray e (0, 0))) := by
  rcases h.2 with ⟨h0, _⟩ | ⟨g', cap, cur, hv, h1, h2, h3, h4, h5, h6⟩
  · cases h0
  · cases hv
    exact ⟨cur.toList, by simpa using h5, (Array.getElem?_eq_some_iff.1 h2).1, (show _ = _ by simpa using h2)⟩

set_option maxRecDepth 100000 in
set_option maxHeartbeats 1000000 in
theorem repl_ints_put (b off n cap p : Nat) (cs : List Value) (q : Nat) (b' : Nat) (ys : List Value) (w : World) (hlen : cs.length = n) (hcap : n ≤ cap) (hb : b < w.heap.size) (hc : CellsAt w b off cs) (hmax : n ≤ 1000000) (h1 : ∀ v ∈ cs, v.oneCell' = true) (hlen' : ys.length = 1) (hb' : b' < w.heap.size) (hc' : CellsAt w b' 0 ys) (h1' : ∀ v ∈ ys, v.oneCell' = true) (hpq : p ≤ q) (hq : q ≤ n) :
    Calls Try.prog 76 #[.slice (some ⟨b, off, none⟩) n cap, .int .i64 p, .int .i64 q, .slice (some ⟨b', 0, none⟩) 1 1] w fun e w' =>
      ∃ N, e = .returned (.slice (some ⟨w.heap.size, 0, none⟩) N N) ∧ N = p + 1 + (n - q) ∧ Below w.heap.size w w' ∧ w.heap.size < w'.heap.size ∧ CellsAt w' w.heap.size 0 (cs.take (p) ++ (ys ++ cs.drop (q))) := by
  obtain ⟨i0, hi, hz0, hz1, hz2⟩ := info_parts infoInt
  obtain ⟨N, hN⟩ : ∃ N, Hid (N = p + 1 + (n - q)) := ⟨_, rfl⟩
  obtain ⟨X1, hX1, hX1l⟩ : ∃ X1, Hid (X1 = cs.take (p)) ∧ Hid (X1.length = p) := ⟨_, rfl, (show _ = _ by simp; omega)⟩
  have c1 : Hid (CellsAt w b off X1) := hX1.out ▸ hc.take _
  have o1 : Hid (∀ v ∈ X1, v.oneCell' = true) := fun v hv => h1 v (List.mem_of_mem_take (hX1.out ▸ hv))
  obtain ⟨X2, hX2, hX2l⟩ : ∃ X2, Hid (X2 = cs.drop (q)) ∧ Hid (X2.length = n - q) := ⟨_, rfl, (show _ = _ by simp [hlen]; try omega)⟩
  have c2 : Hid (CellsAt w b (off + (q)) X2) := hX2.out ▸ hc.drop _
  have o2 : Hid (∀ v ∈ X2, v.oneCell' = true) := fun v hv => h1 v (List.mem_of_mem_drop (hX2.out ▸ hv))
  have HY := Lib.hid hlen'
  have HC' := Lib.hid hc'
  have HO' := Lib.hid h1'
  have hpN : p ≤ N := by have := hN.out; omega
  have hne : ¬ N = p := by have := hN.out; omega
  have k1 : IntKind.i64.wrap ((p : Int) + 1) = (p : Int) + 1 := IntWalk.i64_in _ (by omega)
  have k2 : ((p : Int) + 1).toNat = p + 1 := by omega
  have k3 : (0 : Int) ≤ (p : Int) + 1 := by omega
  have k4 : (p : Int) + 1 ≤ (N : Int) := by have := hN.out; omega
  clear hc h1 hlen hlen' hc' h1'
  go_enter Try.func76, Try.ntmps76
  go_wp2_with (first
    | (at_make; refine wpList_make_full _ rfl _ _ 23 rfl w.heap.size 3 i0 (.int .i64 0) 1 Try.underlying23 hi hz0 hz1 .i64 .i64 _ _ N rfl rfl (by have := hN.out; omega) (by have := hN.out; omega) (by have := hN.out; rw [hz2]; omega) (by have := hN.out; simp only [maxLen]; omega) (Nat.le_refl _) ?_; intro w1 hown1 hgrow1
       obtain ⟨Z, hZ, hgl, HZ⟩ := own_full hown1; have hB1 : Below w.heap.size w w1 := (Below.refl _ _).grown hgrow1 (Nat.le_refl _) (fun j e => by cases e); clear hown1 hgrow1)
    | (with_reducible show wpList _ _ _ (⟨some 24, _, _, _, _, _⟩ :: _) _ _; go_loud (refine wpList_copy_k (o := ⟨some 24, _, _, _, _, _⟩) rfl (.tmp 20) (.tmp 23) 23 23 rfl 3 1 (by decide) Try.underlying23 sizeInt _ _ _ _ _ _ rfl rfl w.heap.size (0) (Z) 3 HZ.out X1 (by have := hN.out; rw [hX1l.out, Nat.mul_one]; exact (Nat.min_eq_left (by omega)).symm) (fun _ => ⟨rfl, _, rfl, (c1.out.below hB1 hb).get⟩) (by have := hN.out; rw [hX1l.out]; omega) o1.out w.heap.size w hB1 (Nat.le_refl _) ?_); intro w2 HZ2 hB2)
    | (with_reducible show wpList _ _ _ (⟨some 29, _, _, _, _, _⟩ :: _) _ _; go_loud (refine wpList_copy_k (o := ⟨some 29, _, _, _, _, _⟩) rfl (.tmp 27) (.tmp 28) 23 23 rfl 3 1 (by decide) Try.underlying23 sizeInt _ _ _ _ _ _ rfl rfl w.heap.size (p) (splice Z 0 X1) 3 HZ2.out ys (by have := hN.out; rw [HY.out]; exact (Nat.mul_one _ ▸ (Nat.min_eq_left (by omega)).symm)) (fun hp0 => ⟨by have := hN.out; first | rfl | (split <;> first | rfl | omega), _, rfl, (HC'.out.below hB2 hb').get⟩) (by have := hN.out; rw [HY.out, length_splice _ _ _ (by have := hN.out; rw [hX1l.out]; omega)]; omega) HO'.out w.heap.size w hB2 (Nat.le_refl _) ?_); intro w3 HZ3 hB3))
  all_goals
    go_region_law (refine step_copy_k rfl (.tmp 35) (.tmp 38) 23 23 rfl 3 1 (by decide) Try.underlying23 sizeInt (if N = p + 1 then some ⟨w.heap.size, 0, none⟩ else some ⟨w.heap.size, p + 1, none⟩) (if cap = q then some ⟨b, off, none⟩ else some ⟨b, off + q, none⟩) (N - (p + 1)) (N - (p + 1)) (n - q) (cap - q) (by simp [Act.eval, Act.put]) (by simp [Act.eval, Act.put]) w.heap.size (p + 1) (splice (splice Z 0 X1) (p) ys) 3 HZ3.out X2 (by have := hN.out; rw [hX2l.out]; exact (Nat.mul_one _ ▸ (Nat.min_eq_left (by omega)).symm)) (fun hp0 => ⟨by have := hN.out; have := hX2l.out; first | rfl | (split <;> first | rfl | omega), _, by have := hN.out; have := hX2l.out; exact if_neg (by omega), (c2.out.below hB3.drew hb).get⟩) (by have := hN.out; rw [hX2l.out]; rw [length_splice _ _ _ (by have := hN.out; rw [HY.out, length_splice _ _ _ (by have := hN.out; rw [hX1l.out]; omega)]; omega), length_splice _ _ _ (by have := hN.out; rw [hX1l.out]; omega)]; omega) o2.out w.heap.size w hB3.drew (Nat.le_refl _) ?_; intro w4 HZ4 hB4)
  all_goals
    go_wp2
  all_goals
    go_ret
    refine ⟨_, rfl, (by have := hN.out; omega), hB4, (Array.getElem?_eq_some_iff.1 HZ4.out).1, ?_⟩
    have hs := splice_splice_splice Z X1 ys X2 (p) 1 hX1l.out HY.out (by have := hN.out; rw [hX2l.out]; omega)
    have hh := HZ4.out
    rw [hs] at hh
    have := cellsAt_of_heap hh
    rw [← hX1.out, ← hX2.out]; exact this

set_option maxRecDepth 100000 in
set_option maxHeartbeats 1000000 in
theorem repl_ints_new (b' : Nat) (ys : List Value) (w : World) (hlen' : ys.length = 1) (hb' : b' < w.heap.size) (hc' : CellsAt w b' 0 ys) (h1' : ∀ v ∈ ys, v.oneCell' = true) :
    Calls Try.prog 76 #[.slice none 0 0, .int .i64 0, .int .i64 0, .slice (some ⟨b', 0, none⟩) 1 1] w fun e w' =>
      ∃ N, e = .returned (.slice (some ⟨w.heap.size, 0, none⟩) N N) ∧ N = 1 ∧ Below w.heap.size w w' ∧ w.heap.size < w'.heap.size ∧ CellsAt w' w.heap.size 0 (ys) := by
  obtain ⟨i0, hi, hz0, hz1, hz2⟩ := info_parts infoInt
  obtain ⟨N, hN⟩ : ∃ N, Hid (N = 1) := ⟨1, (show _ = _ from rfl)⟩
  have HY := Lib.hid hlen'
  have HC' := Lib.hid hc'
  have HO' := Lib.hid h1'
  obtain rfl : N = 1 := hN.out
  have k1 : IntKind.i64.wrap 1 = 1 := by decide
  clear hlen' hc' h1'
  go_enter Try.func76, Try.ntmps76
  go_wp2_with (first
    | (at_make; refine wpList_make_full _ rfl _ _ 23 rfl w.heap.size 3 i0 (.int .i64 0) 1 Try.underlying23 hi hz0 hz1 .i64 .i64 _ _ 1 rfl rfl (by omega) (by omega) (by rw [hz2]; omega) (by simp only [maxLen]; omega) (Nat.le_refl _) ?_; intro w1 hown1 hgrow1
       obtain ⟨Z, hZ, hgl, HZ⟩ := own_full hown1; have hB1 : Below w.heap.size w w1 := (Below.refl _ _).grown hgrow1 (Nat.le_refl _) (fun j e => by cases e); clear hown1 hgrow1)
    | (with_reducible show wpList _ _ _ (⟨some 24, _, _, _, _, _⟩ :: _) _ _; go_loud (refine wpList_copy_k (o := ⟨some 24, _, _, _, _, _⟩) rfl (.tmp 20) (.tmp 23) 23 23 rfl 3 1 (by decide) Try.underlying23 sizeInt _ _ _ _ _ _ rfl rfl w.heap.size (0) (Z) 3 HZ.out [] (by simp) (fun h => absurd h (by simp)) (by simp) (by simp) w.heap.size w hB1 (Nat.le_refl _) ?_); intro w2 HZ2 hB2)
    | (with_reducible show wpList _ _ _ (⟨some 29, _, _, _, _, _⟩ :: _) _ _; go_loud (refine wpList_copy_k (o := ⟨some 29, _, _, _, _, _⟩) rfl (.tmp 27) (.tmp 28) 23 23 rfl 3 1 (by decide) Try.underlying23 sizeInt _ _ _ _ _ _ rfl rfl w.heap.size (0) (splice Z 0 []) 3 HZ2.out ys (by rw [HY.out]; decide) (fun hp0 => ⟨by first | rfl | (split <;> first | rfl | omega), _, rfl, (HC'.out.below hB2 hb').get⟩) (by rw [HY.out, length_splice _ _ _ (by simp)]; omega) HO'.out w.heap.size w hB2 (Nat.le_refl _) ?_); intro w3 HZ3 hB3))
  all_goals
    go_region_law (refine step_copy_k rfl (.tmp 35) (.tmp 38) 23 23 rfl 3 1 (by decide) Try.underlying23 sizeInt (some ⟨w.heap.size, 0, none⟩) none 0 0 0 0 (by simp [Act.eval, Act.put]) (by simp [Act.eval, Act.put]) w.heap.size (1) (splice (splice Z 0 []) (0) ys) 3 HZ3.out [] (by simp) (fun h => absurd h (by simp)) (by rw [length_splice _ _ _ (by rw [HY.out, length_splice _ _ _ (by simp)]; omega), length_splice _ _ _ (by simp)]; simp; omega) (by simp) w.heap.size w hB3.drew (Nat.le_refl _) ?_; intro w4 HZ4 hB4)
  all_goals
    go_wp2
  all_goals
    go_ret
    refine ⟨_, rfl, rfl, hB4, (Array.getElem?_eq_some_iff.1 HZ4.out).1, ?_⟩
    have hs := splice_splice_splice Z [] ys [] 0 1 rfl HY.out (by simp; omega)
    have hh := HZ4.out
    try simp only [Nat.zero_add] at hs
    rw [hs] at hh
    have := cellsAt_of_heap hh
    simpa using this

set_option maxRecDepth 100000 in
set_option maxHeartbeats 1000000 in
theorem repl_ints_cut (b off n cap p : Nat) (cs : List Value) (w : World) (hlen : cs.length = n) (hcap : n ≤ cap) (hb : b < w.heap.size) (hc : CellsAt w b off cs) (hmax : n ≤ 1000000) (h1 : ∀ v ∈ cs, v.oneCell' = true) (hq : p + 1 < n) :
    Calls Try.prog 76 #[.slice (some ⟨b, off, none⟩) n cap, .int .i64 p, .int .i64 ((p : Int) + 1), .slice none 0 0] w fun e w' =>
      ∃ N, e = .returned (.slice (some ⟨w.heap.size, 0, none⟩) N N) ∧ N = n - 1 ∧ Below w.heap.size w w' ∧ w.heap.size < w'.heap.size ∧ CellsAt w' w.heap.size 0 (cs.take (p) ++ ([] ++ cs.drop (p + 1))) := by
  obtain ⟨i0, hi, hz0, hz1, hz2⟩ := info_parts infoInt
  obtain ⟨N, hN⟩ : ∃ N, Hid (N = n - 1) := ⟨_, rfl⟩
  obtain ⟨X1, hX1, hX1l⟩ : ∃ X1, Hid (X1 = cs.take (p)) ∧ Hid (X1.length = p) := ⟨_, rfl, (show _ = _ by simp; omega)⟩
  have c1 : Hid (CellsAt w b off X1) := hX1.out ▸ hc.take _
  have o1 : Hid (∀ v ∈ X1, v.oneCell' = true) := fun v hv => h1 v (List.mem_of_mem_take (hX1.out ▸ hv))
  obtain ⟨X2, hX2, hX2l⟩ : ∃ X2, Hid (X2 = cs.drop (p + 1)) ∧ Hid (X2.length = n - (p + 1)) := ⟨_, rfl, (show _ = _ by simp [hlen]; try omega)⟩
  have c2 : Hid (CellsAt w b (off + (p + 1)) X2) := hX2.out ▸ hc.drop _
  have o2 : Hid (∀ v ∈ X2, v.oneCell' = true) := fun v hv => h1 v (List.mem_of_mem_drop (hX2.out ▸ hv))
  have hpN : p ≤ N := by have := hN.out; omega
  have hne : ¬ N = p := by have := hN.out; omega
  have k1 : IntKind.i64.wrap (p : Int) = (p : Int) := IntWalk.i64_in _ (by omega)
  have k2 : ((p : Int) + 1).toNat = p + 1 := by omega
  have k3 : (0 : Int) ≤ (p : Int) + 1 := by omega
  have k4 : (p : Int) + 1 ≤ (n : Int) := by omega
  clear hc h1 hlen
  go_enter Try.func76, Try.ntmps76
  go_wp2_with (first
    | (at_make; refine wpList_make_full _ rfl _ _ 23 rfl w.heap.size 3 i0 (.int .i64 0) 1 Try.underlying23 hi hz0 hz1 .i64 .i64 _ _ N rfl rfl (by have := hN.out; omega) (by have := hN.out; omega) (by have := hN.out; rw [hz2]; omega) (by have := hN.out; simp only [maxLen]; omega) (Nat.le_refl _) ?_; intro w1 hown1 hgrow1
       obtain ⟨Z, hZ, hgl, HZ⟩ := own_full hown1; have hB1 : Below w.heap.size w w1 := (Below.refl _ _).grown hgrow1 (Nat.le_refl _) (fun j e => by cases e); clear hown1 hgrow1)
    | (with_reducible show wpList _ _ _ (⟨some 24, _, _, _, _, _⟩ :: _) _ _; go_loud (refine wpList_copy_k (o := ⟨some 24, _, _, _, _, _⟩) rfl (.tmp 20) (.tmp 23) 23 23 rfl 3 1 (by decide) Try.underlying23 sizeInt _ _ _ _ _ _ rfl rfl w.heap.size (0) (Z) 3 HZ.out X1 (by have := hN.out; rw [hX1l.out, Nat.mul_one]; exact (Nat.min_eq_left (by omega)).symm) (fun _ => ⟨rfl, _, rfl, (c1.out.below hB1 hb).get⟩) (by have := hN.out; rw [hX1l.out]; omega) o1.out w.heap.size w hB1 (Nat.le_refl _) ?_); intro w2 HZ2 hB2)
    | (with_reducible show wpList _ _ _ (⟨some 29, _, _, _, _, _⟩ :: _) _ _; go_loud (refine wpList_copy_k (o := ⟨some 29, _, _, _, _, _⟩) rfl (.tmp 27) (.tmp 28) 23 23 rfl 3 1 (by decide) Try.underlying23 sizeInt _ _ _ _ _ _ rfl rfl w.heap.size (p) (splice Z 0 X1) 3 HZ2.out [] (by simp) (fun h => absurd h (by simp)) (by have := hN.out; rw [length_splice _ _ _ (by have := hN.out; rw [hX1l.out]; omega)]; simp; omega) (by simp) w.heap.size w hB2 (Nat.le_refl _) ?_); intro w3 HZ3 hB3))
  all_goals
    go_region_law (refine step_copy_k rfl (.tmp 35) (.tmp 38) 23 23 rfl 3 1 (by decide) Try.underlying23 sizeInt (some ⟨w.heap.size, p, none⟩) (if cap = p + 1 then some ⟨b, off, none⟩ else some ⟨b, off + (p + 1), none⟩) (N - p) (N - p) (n - (p + 1)) (cap - (p + 1)) (by simp [Act.eval, Act.put]) (by simp [Act.eval, Act.put]) w.heap.size (p) (splice (splice Z 0 X1) (p) []) 3 HZ3.out X2 (by have := hN.out; rw [hX2l.out]; exact (Nat.mul_one _ ▸ (Nat.min_eq_left (by omega)).symm)) (fun hp0 => ⟨by have := hN.out; have := hX2l.out; first | rfl | (split <;> first | rfl | omega), _, by have := hN.out; have := hX2l.out; exact if_neg (by omega), (c2.out.below hB3.drew hb).get⟩) (by have := hN.out; rw [hX2l.out]; rw [length_splice _ _ _ (by have := hN.out; rw [length_splice _ _ _ (by have := hN.out; rw [hX1l.out]; omega)]; simp; omega), length_splice _ _ _ (by have := hN.out; rw [hX1l.out]; omega)]; omega) o2.out w.heap.size w hB3.drew (Nat.le_refl _) ?_; intro w4 HZ4 hB4)
  all_goals
    go_wp2
  all_goals
    go_ret
    refine ⟨_, rfl, (by have := hN.out; omega), hB4, (Array.getElem?_eq_some_iff.1 HZ4.out).1, ?_⟩
    have hs := splice_splice_splice Z X1 [] X2 (p) 0 hX1l.out rfl (by have := hN.out; rw [hX2l.out]; omega)
    have hh := HZ4.out
    try simp only [Nat.add_zero] at hs
    rw [hs] at hh
    have := cellsAt_of_heap hh
    rw [← hX1.out, ← hX2.out]; exact this

set_option maxRecDepth 100000 in
set_option maxHeartbeats 1000000 in
theorem repl_ints_last (b off n cap p : Nat) (cs : List Value) (w : World) (hlen : cs.length = n) (hcap : n ≤ cap) (hb : b < w.heap.size) (hc : CellsAt w b off cs) (hmax : n ≤ 1000000) (h1 : ∀ v ∈ cs, v.oneCell' = true) (hq : p + 1 = n) :
    Calls Try.prog 76 #[.slice (some ⟨b, off, none⟩) n cap, .int .i64 p, .int .i64 ((p : Int) + 1), .slice none 0 0] w fun e w' =>
      ∃ N, e = .returned (.slice (some ⟨w.heap.size, 0, none⟩) N N) ∧ N = p ∧ Below w.heap.size w w' ∧ w.heap.size < w'.heap.size ∧ CellsAt w' w.heap.size 0 (cs.take (p) ++ ([] ++ cs.drop (p + 1))) := by
  obtain ⟨i0, hi, hz0, hz1, hz2⟩ := info_parts infoInt
  obtain ⟨N, hN⟩ : ∃ N, Hid (N = p) := ⟨_, rfl⟩
  subst hq
  obtain ⟨X1, hX1, hX1l⟩ : ∃ X1, Hid (X1 = cs.take (p)) ∧ Hid (X1.length = p) := ⟨_, rfl, (show _ = _ by simp; omega)⟩
  have c1 : Hid (CellsAt w b off X1) := hX1.out ▸ hc.take _
  have o1 : Hid (∀ v ∈ X1, v.oneCell' = true) := fun v hv => h1 v (List.mem_of_mem_take (hX1.out ▸ hv))
  obtain ⟨X2, hX2, hX2l⟩ : ∃ X2, Hid (X2 = cs.drop (p + 1)) ∧ Hid (X2.length = 0) := ⟨_, rfl, (show _ = _ by simp [hlen]; try omega)⟩
  have c2 : Hid (CellsAt w b (off + (p + 1)) X2) := hX2.out ▸ hc.drop _
  have o2 : Hid (∀ v ∈ X2, v.oneCell' = true) := fun v hv => h1 v (List.mem_of_mem_drop (hX2.out ▸ hv))
  obtain rfl : N = p := hN.out
  have k1 : IntKind.i64.wrap (N : Int) = (N : Int) := IntWalk.i64_in _ (by omega)
  have k2 : ((N : Int) + 1).toNat = N + 1 := by omega
  have k3 : (0 : Int) ≤ (N : Int) + 1 := by omega
  have k4 : (N : Int) + 1 ≤ ((N + 1 : Nat) : Int) := by omega
  clear hc h1 hlen
  go_enter Try.func76, Try.ntmps76
  go_wp2_with (first
    | (at_make; refine wpList_make_full _ rfl _ _ 23 rfl w.heap.size 3 i0 (.int .i64 0) 1 Try.underlying23 hi hz0 hz1 .i64 .i64 _ _ N rfl rfl (by omega) (by omega) (by rw [hz2]; omega) (by simp only [maxLen]; omega) (Nat.le_refl _) ?_; intro w1 hown1 hgrow1
       obtain ⟨Z, hZ, hgl, HZ⟩ := own_full hown1; have hB1 : Below w.heap.size w w1 := (Below.refl _ _).grown hgrow1 (Nat.le_refl _) (fun j e => by cases e); clear hown1 hgrow1)
    | (with_reducible show wpList _ _ _ (⟨some 24, _, _, _, _, _⟩ :: _) _ _; go_loud (refine wpList_copy_k (o := ⟨some 24, _, _, _, _, _⟩) rfl (.tmp 20) (.tmp 23) 23 23 rfl 3 1 (by decide) Try.underlying23 sizeInt _ _ _ _ _ _ rfl rfl w.heap.size (0) (Z) 3 HZ.out X1 (by rw [hX1l.out, Nat.mul_one]; exact (Nat.min_eq_left (by omega)).symm) (fun _ => ⟨rfl, _, rfl, (c1.out.below hB1 hb).get⟩) (by rw [hX1l.out]; omega) o1.out w.heap.size w hB1 (Nat.le_refl _) ?_); intro w2 HZ2 hB2)
    | (with_reducible show wpList _ _ _ (⟨some 29, _, _, _, _, _⟩ :: _) _ _; go_loud (refine wpList_copy_k (o := ⟨some 29, _, _, _, _, _⟩) rfl (.tmp 27) (.tmp 28) 23 23 rfl 3 1 (by decide) Try.underlying23 sizeInt _ _ _ _ _ _ rfl rfl w.heap.size (N) (splice Z 0 X1) 3 HZ2.out [] (by simp) (fun h => absurd h (by simp)) (by rw [length_splice _ _ _ (by rw [hX1l.out]; omega)]; simp; omega) (by simp) w.heap.size w hB2 (Nat.le_refl _) ?_); intro w3 HZ3 hB3))
  all_goals
    go_region_law (refine step_copy_k rfl (.tmp 35) (.tmp 38) 23 23 rfl 3 1 (by decide) Try.underlying23 sizeInt (some ⟨w.heap.size, 0, none⟩) (if cap = N + 1 then some ⟨b, off, none⟩ else some ⟨b, off + (N + 1), none⟩) 0 0 0 (cap - (N + 1)) (by simp [Act.eval, Act.put]) (by simp [Act.eval, Act.put]) w.heap.size (N) (splice (splice Z 0 X1) (N) []) 3 HZ3.out [] (by simp) (fun h => absurd h (by simp)) (by rw [length_splice _ _ _ (by rw [length_splice _ _ _ (by rw [hX1l.out]; omega)]; simp; omega), length_splice _ _ _ (by rw [hX1l.out]; omega)]; simp; omega) (by simp) w.heap.size w hB3.drew (Nat.le_refl _) ?_; intro w4 HZ4 hB4)
  all_goals
    go_wp2
  all_goals
    go_ret
    refine ⟨_, rfl, rfl, hB4, (Array.getElem?_eq_some_iff.1 HZ4.out).1, ?_⟩
    have hs := splice_splice_splice Z X1 [] [] (N) 0 hX1l.out rfl (by simp; omega)
    have hh := HZ4.out
    have h2 : X2 = [] := List.eq_nil_of_length_eq_zero (by rw [hX2l.out]; try omega)
    try simp only [Nat.add_zero] at hs
    rw [hs] at hh
    have := cellsAt_of_heap hh
    rw [← hX1.out, ← hX2.out, h2]; exact this

end Go.Proofs.Ytabgedmocdjkcaa
