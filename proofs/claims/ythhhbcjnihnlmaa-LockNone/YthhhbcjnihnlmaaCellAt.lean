/- Layer 4's cells of numbers that lie anywhere in a block: contracts over the program's text. -/
import Derived.Test.YthhhbcjnihnlmaaProg
import Derived.Test.YthhhbcjnihnlmaaBlk
import Derived.Defers
import Derived.Recover
import Derived.Laws.Pointers
import Derived.WalkKit
namespace Go.Proofs.Ythhhbcjnihnlmaa
open Go.RowKit

theorem eqI (a b : Int) (h : a = b) : (a == b) = true := by rw [h]; simp
theorem neI (a b : Int) (h : a ≠ b) : (a == b) = false := by simp [h]
theorem bneI (a b : Int) (h : a ≠ b) : (a != b) = true := by simp [h]
theorem bneI' (a b : Int) (h : a = b) : (a != b) = false := by simp [h]

theorem same_int_idle (p : Addr) (w : World) :
    CallsD Try.prog 26 #[.pointer (some p)] .returning w fun e u' w' => e = .returned (.tuple #[]) ∧ u' = .returning ∧ w' = w := by
  refine callsD_of_wpS Try.func26 rfl fun c₀ cs hu => ?_
  apply wpS_seq
  apply wpS_region
  simp [wpOpsS, go_sem, recoverD, hu, Try.ntmps26, Exit.thenS]
  refine wpS_cond (t := false) (by simp [Act.eval, Array.replicate]) ?_
  simp only [Bool.false_eq_true, if_false]
  refine wpS_of_wp (wp_skip ?_)
  cases c₀
  simp_all [bodyPostS, results, Try.results26]
theorem same_int (a b : Int) (w : World) :
    Calls Try.prog 25 #[.int .i64 a, .int .i64 b] w fun e w' => e = .returned (.bool (a == b)) ∧ Below w.heap.size w w' := by
  have hmf : ∀ (fn : Fn) (first cap : Array Value) (w : World), (Instr.makeFunc fn first cap).run Try.prog w = .ok (.func fn first cap) w := fun _ _ _ _ => rfl
  go_enter_defers Try.func25, Try.ntmps25
  go_wp2
  refine leaves_cons (f := 26) (args := #[.pointer (some ⟨w.heap.size, 0, none⟩)]) (by simp) (by simp [go_sem]) ?_
  refine (same_int_idle ⟨w.heap.size, 0, none⟩ _).mono ?_
  rintro e u' w'' ⟨rfl, rfl, rfl⟩
  simp [Leaves, settle, results, Try.results25, go_sem]
  exact (Below.refl _ _).alloc (Nat.le_refl _) _
theorem same_int_yes (a : Int) (w : World) :
    Calls Try.prog 25 #[.int .i64 a, .int .i64 a] w fun e w' => e = .returned (.bool true) ∧ Below w.heap.size w w' :=
  (same_int a a w).mono fun e w' ⟨h, hb⟩ => ⟨by rw [h, show (a == a) = true from eqI a a rfl], hb⟩
theorem same_int_no (a b : Int) (w : World) (hab : a ≠ b) :
    Calls Try.prog 25 #[.int .i64 a, .int .i64 b] w fun e w' => e = .returned (.bool false) ∧ Below w.heap.size w w' :=
  (same_int a b w).mono fun e w' ⟨h, hb⟩ => ⟨by rw [h, show (a == b) = false from neI a b hab], hb⟩

theorem access_at {t : TypeId} {B o : Nat} {n : Int} {l : List Value} {w : World} (h : Blk t w B l) (hn : l[o + 1]? = some (.int .i64 n)) (h0 : 0 ≤ n) (h1 : n ≤ 1000000000) :
    Calls Try.prog 24 #[.pointer (some ⟨B, o, none⟩)] w fun e w' => e = .returned (.bool true) ∧ w.setCell ⟨B, o + 1, none⟩ (.int .i64 (n + 1)) = w' := by
  have c1 := h.at hn
  have f1 := h.frozen (o + 1)
  clear h hn
  go_enter Try.func24, Try.ntmps24
  go_wp2
  go_ret
  exact ⟨rfl, rfl⟩
theorem peek_at {t : TypeId} {B o : Nat} {x : Int} {l : List Value} {w : World} (h : Blk t w B l) (hx : l[o]? = some (.int .i64 x)) :
    Calls Try.prog 23 #[.pointer (some ⟨B, o, none⟩)] w fun e w' => e = .returned (.int .i64 x) ∧ w = w' := by
  have c1 := h.at hx
  clear h hx
  go_enter Try.func23, Try.ntmps23
  go_wp2
  go_ret
  exact ⟨rfl, rfl⟩
theorem cas_at_yes {t : TypeId} {B o : Nat} {x n : Int} (y : Int) {l : List Value} {w : World} (h : Blk t w B l) (hx : l[o]? = some (.int .i64 x)) (hn : l[o + 1]? = some (.int .i64 n)) (h0 : 0 ≤ n) (h1 : n ≤ 1000000000) :
    Calls Try.prog 22 #[.pointer (some ⟨B, o, none⟩), .int .i64 x, .int .i64 y] w fun e w' => e = .returned (.bool true) ∧ Blk t w' B ((l.set (o + 1) (.int .i64 (n + 1))).set o (.int .i64 y)) ∧ Only (· = B) w w' := by
  have hn1 := Lib.hid (And.intro h (And.intro hx hn))
  clear h hx hn
  go_enter Try.func22, Try.ntmps22
  go_wp2_with fail
  refine (access_at hn1.out.1 hn1.out.2.2 h0 h1).mono ?_
  rintro e w' ⟨rfl, rfl⟩
  have k := hn1.out.1.set (o + 1) (.int .i64 (n + 1))
  have k0 := set_ne (.int .i64 (n + 1)) (show o + 1 ≠ o by omega) hn1.out.2.1
  have c0 := k.at k0
  have ho := Lib.hid ((Only.refl (· = B) w).setCell (p := ⟨B, o + 1, none⟩) (.inl rfl) (.int .i64 (n + 1)))
  have H := Lib.hid (And.intro k k0)
  clear k k0 hn1
  go_wp2_with fail
  refine (same_int_yes x _).mono ?_
  rintro e w2 ⟨rfl, hb⟩
  have k := H.out.1.only (Only.of_below hb (fun _ => False)) (fun h => h)
  have o2 := ho.out.trans (Only.of_below hb (· = B))
  have c0 := k.at H.out.2
  have f0 := k.frozen o
  have K := Lib.hid (And.intro (k.set o (.int .i64 y)) (o2.setCell (p := ⟨B, o, none⟩) (.inl rfl) (.int .i64 y)))
  clear k o2 hb H ho
  go_wp2
  go_ret
  exact ⟨rfl, K.out⟩
theorem cas_at_no {t : TypeId} {B o : Nat} {x n : Int} (old y : Int) {l : List Value} {w : World} (h : Blk t w B l) (hx : l[o]? = some (.int .i64 x)) (hn : l[o + 1]? = some (.int .i64 n)) (h0 : 0 ≤ n) (h1 : n ≤ 1000000000) (hne : x ≠ old) :
    Calls Try.prog 22 #[.pointer (some ⟨B, o, none⟩), .int .i64 old, .int .i64 y] w fun e w' => e = .returned (.bool false) ∧ Blk t w' B (l.set (o + 1) (.int .i64 (n + 1))) ∧ Only (· = B) w w' := by
  have hn1 := Lib.hid (And.intro h (And.intro hx hn))
  have hne := Lib.hid hne
  clear h hx hn
  go_enter Try.func22, Try.ntmps22
  go_wp2_with fail
  refine (access_at hn1.out.1 hn1.out.2.2 h0 h1).mono ?_
  rintro e w' ⟨rfl, rfl⟩
  have k := hn1.out.1.set (o + 1) (.int .i64 (n + 1))
  have k0 := set_ne (.int .i64 (n + 1)) (show o + 1 ≠ o by omega) hn1.out.2.1
  have c0 := k.at k0
  have ho := Lib.hid ((Only.refl (· = B) w).setCell (p := ⟨B, o + 1, none⟩) (.inl rfl) (.int .i64 (n + 1)))
  have H := Lib.hid k
  clear k k0 hn1
  go_wp2_with fail
  refine (same_int_no x old _ hne.out).mono ?_
  rintro e w2 ⟨rfl, hb⟩
  have k := H.out.only (Only.of_below hb (fun _ => False)) (fun h => h)
  have o2 := ho.out.trans (Only.of_below hb (· = B))
  have K := Lib.hid (And.intro k o2)
  clear k o2 hb H ho
  go_wp2
  go_ret
  exact ⟨rfl, K.out⟩

end Go.Proofs.Ythhhbcjnihnlmaa
