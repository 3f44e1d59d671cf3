/- What the program's layer 4 (package cell) comes to: contracts over the program's text. Made by tools/gen_cell.py. -/
import Derived.Test.YtimggoikjipblaaProg
import Derived.Test.YtimggoikjipblaaOnly
import Derived.Defers
import Derived.Recover
import Derived.Laws.Pointers
import Derived.Lib.Hide
import Derived.WalkKit
import Derived.Lib.SlicesS
namespace Go.Proofs.Ytimggoikjipblaa
open Go.RowKit

/-- A cell: its value and how often it was accessed. -/
def CellIs (t : TypeId) (W : World) (B : Nat) (v : Value) (n : Int) : Prop := W.heap[B]? = some (.cells #[v, .int .i64 n] t (0, 0))
theorem CellIs.lt {t : TypeId} {W : World} {B : Nat} {v : Value} {n : Int} (h : CellIs t W B v n) : B < W.heap.size := (Array.getElem?_eq_some_iff.1 h).1
theorem CellIs.cell0 {t : TypeId} {W : World} {B : Nat} {v : Value} {n : Int} (h : CellIs t W B v n) : W.cell? ⟨B, 0, none⟩ = some v := by
  have h' : W.heap[B]? = _ := h
  simp [World.cell?, h']
theorem CellIs.cell1 {t : TypeId} {W : World} {B : Nat} {v : Value} {n : Int} (h : CellIs t W B v n) : W.cell? ⟨B, 1, none⟩ = some (.int .i64 n) := by
  have h' : W.heap[B]? = _ := h
  simp [World.cell?, h']
theorem CellIs.frozen {t : TypeId} {W : World} {B : Nat} {v : Value} {n : Int} (h : CellIs t W B v n) (o : Nat) : W.frozen? ⟨B, o, none⟩ = false := by
  have h' : W.heap[B]? = _ := h
  simp [World.frozen?, h']
theorem CellIs.set0 {t : TypeId} {W : World} {B : Nat} {v : Value} {n : Int} (h : CellIs t W B v n) (u : Value) : CellIs t (W.setCell ⟨B, 0, none⟩ u) B u n := (heap_set2 h u).1
theorem CellIs.set1 {t : TypeId} {W : World} {B : Nat} {v : Value} {n : Int} (h : CellIs t W B v n) (m : Int) : CellIs t (W.setCell ⟨B, 1, none⟩ (.int .i64 m)) B v m := (heap_set2 h (.int .i64 m)).2
theorem CellIs.only {t : TypeId} {W W' : World} {B : Nat} {v : Value} {n : Int} {S : Nat → Prop} (h : CellIs t W B v n) (hS : Only S W W') (hB : ¬ S B) : CellIs t W' B v n := (hS.block B h.lt hB).trans h
theorem CellIs.new {t : TypeId} {W : World} {v : Value} {n : Int} : CellIs t (W.alloc (.cells #[v, .int .i64 n] t)) W.heap.size v n := by
  show (W.heap.push _)[W.heap.size]? = _
  simp
theorem eqI (a b : Int) (h : a = b) : (a == b) = true := by rw [h]; simp
theorem neI (a b : Int) (h : a ≠ b) : (a == b) = false := by simp [h]
theorem eqB (a b : ByteArray) (h : a = b) : (a.toList == b.toList) = true := (Lib.bytes_beq_iff a b).2 h
theorem neB (a b : ByteArray) (h : a ≠ b) : (a.toList == b.toList) = false := (Lib.bytes_beq_false_iff a b).2 h

/-! ### int -/
theorem same_int_idle (p : Addr) (w : World) :
    CallsD Try.prog 26 #[.pointer (some p)] .returning w fun e u' w' => e = .returned (.tuple #[]) ∧ u' = .returning ∧ w' = w := by
  refine callsD_of_wpS Try.func26 rfl fun c₀ cs hu => ?_
  apply wpS_seq
  apply wpS_region
  simp [wpOpsS, go_sem, recoverD, hu, Try.ntmps26, Exit.thenS]
  refine wpS_cond (t := false) (by simp [Act.eval, Array.replicate]) ?_
  simp only [Bool.false_eq_true, if_false]
  refine wpS_of_wp (wp_skip ?_)
  cases c₀
  simp_all [bodyPostS, results, Try.results26]
theorem same_int (a b : Int) (w : World) :
    Calls Try.prog 24 #[.int .i64 a, .int .i64 b] w fun e w' => e = .returned (.bool (a == b)) ∧ Below w.heap.size w w' := by
  have hmf : ∀ (fn : Fn) (first cap : Array Value) (w : World), (Instr.makeFunc fn first cap).run Try.prog w = .ok (.func fn first cap) w := fun _ _ _ _ => rfl
  go_enter_defers Try.func24, Try.ntmps24
  go_wp2
  refine leaves_cons (f := 26) (args := #[.pointer (some ⟨w.heap.size, 0, none⟩)]) (by simp) (by simp [go_sem]) ?_
  refine (same_int_idle ⟨w.heap.size, 0, none⟩ _).mono ?_
  rintro e u' w'' ⟨rfl, rfl, rfl⟩
  simp [Leaves, settle, results, Try.results24, go_sem]
  exact (Below.refl _ _).alloc (Nat.le_refl _) _
theorem same_int_yes (a : Int) (w : World) :
    Calls Try.prog 24 #[.int .i64 a, .int .i64 a] w fun e w' => e = .returned (.bool true) ∧ Below w.heap.size w w' :=
  (same_int a a w).mono fun e w' ⟨h, hb⟩ => ⟨by rw [h, show (a == a) = true from eqI a a rfl], hb⟩
theorem same_int_no (a b : Int) (w : World) (hab : a ≠ b) :
    Calls Try.prog 24 #[.int .i64 a, .int .i64 b] w fun e w' => e = .returned (.bool false) ∧ Below w.heap.size w w' :=
  (same_int a b w).mono fun e w' ⟨h, hb⟩ => ⟨by rw [h, show (a == b) = false from neI a b hab], hb⟩

theorem access_int (B : Nat) (x : Int) (n : Int) (w : World) (h : CellIs 45 w B (.int .i64 x) n) (h0 : 0 ≤ n) (h1 : n ≤ 1000000000) :
    Calls Try.prog 23 #[.pointer (some ⟨B, 0, none⟩)] w fun e w' => e = .returned (.bool true) ∧ w.setCell ⟨B, 1, none⟩ (.int .i64 (n + 1)) = w' := by
  have c1 := h.cell1
  have f1 := h.frozen 1
  go_enter Try.func23, Try.ntmps23
  go_wp2
  go_ret
  exact ⟨rfl, rfl⟩
theorem access_int_nil (w : World) :
    Calls Try.prog 23 #[.pointer none] w fun e w' => e = .returned (.bool false) ∧ w = w' := by
  go_enter Try.func23, Try.ntmps23
  go_wp2
  go_ret
  exact ⟨rfl, rfl⟩
theorem peek_int (B : Nat) (x : Int) (n : Int) (w : World) (h : CellIs 45 w B (.int .i64 x) n) :
    Calls Try.prog 9 #[.pointer (some ⟨B, 0, none⟩)] w fun e w' => e = .returned (.int .i64 x) ∧ w = w' := by
  have c1 := h.cell0
  go_enter Try.func9, Try.ntmps9
  go_wp2
  go_ret
  exact ⟨rfl, rfl⟩
theorem peek_int_nil (w : World) :
    Calls Try.prog 9 #[.pointer none] w fun e w' => e = .returned (.int .i64 0) ∧ w = w' := by
  go_enter Try.func9, Try.ntmps9
  go_wp2
  go_ret
  exact ⟨rfl, rfl⟩
theorem count_int (B : Nat) (x : Int) (n : Int) (w : World) (h : CellIs 45 w B (.int .i64 x) n) :
    Calls Try.prog 10 #[.pointer (some ⟨B, 0, none⟩)] w fun e w' => e = .returned (.int .i64 n) ∧ w = w' := by
  have c1 := h.cell1
  go_enter Try.func10, Try.ntmps10
  go_wp2
  go_ret
  exact ⟨rfl, rfl⟩
theorem count_int_nil (w : World) :
    Calls Try.prog 10 #[.pointer none] w fun e w' => e = .returned (.int .i64 0) ∧ w = w' := by
  go_enter Try.func10, Try.ntmps10
  go_wp2
  go_ret
  exact ⟨rfl, rfl⟩
theorem load_int (B : Nat) (x : Int) (n : Int) (w : World) (h : CellIs 45 w B (.int .i64 x) n) (h0 : 0 ≤ n) (h1 : n ≤ 1000000000) :
    Calls Try.prog 17 #[.pointer (some ⟨B, 0, none⟩)] w fun e w' => e = .returned (.int .i64 x) ∧ CellIs 45 w' B (.int .i64 x) (n + 1) ∧ Only (· = B) w w' := by
  go_enter Try.func17, Try.ntmps17
  go_wp2_with fail
  refine (access_int B x n w h h0 h1).mono ?_
  rintro e w' ⟨rfl, rfl⟩
  go_wp2_with fail
  refine (peek_int B x (n + 1) _ (h.set1 (n + 1))).mono ?_
  rintro e w' ⟨rfl, rfl⟩
  go_wp2
  go_ret
  exact ⟨rfl, h.set1 (n + 1), (Only.refl (· = B) w).setCell (p := ⟨B, 1, none⟩) (.inl rfl) _⟩
theorem store_int (B : Nat) (x y : Int) (n : Int) (w : World) (h : CellIs 45 w B (.int .i64 x) n) (h0 : 0 ≤ n) (h1 : n ≤ 1000000000) :
    Calls Try.prog 18 #[.pointer (some ⟨B, 0, none⟩), .int .i64 y] w fun e w' => e = .returned (.tuple #[]) ∧ CellIs 45 w' B (.int .i64 y) (n + 1) ∧ Only (· = B) w w' := by
  go_enter Try.func18, Try.ntmps18
  go_wp2_with fail
  refine (access_int B x n w h h0 h1).mono ?_
  rintro e w' ⟨rfl, rfl⟩
  have c0 := (h.set1 (n + 1)).cell0
  have f0 := (h.set1 (n + 1)).frozen 0
  have K := Lib.hid (And.intro ((h.set1 (n + 1)).set0 (.int .i64 y)) (((Only.refl (· = B) w).setCell (p := ⟨B, 1, none⟩) (.inl rfl) (.int .i64 (n + 1))).setCell (p := ⟨B, 0, none⟩) (.inl rfl) (.int .i64 y)))
  clear h
  go_wp2
  go_end0
  exact ⟨rfl, K.out⟩
theorem swap_int (B : Nat) (x y : Int) (n : Int) (w : World) (h : CellIs 45 w B (.int .i64 x) n) (h0 : 0 ≤ n) (h1 : n ≤ 1000000000) :
    Calls Try.prog 19 #[.pointer (some ⟨B, 0, none⟩), .int .i64 y] w fun e w' => e = .returned (.int .i64 x) ∧ CellIs 45 w' B (.int .i64 y) (n + 1) ∧ Only (· = B) w w' := by
  go_enter Try.func19, Try.ntmps19
  go_wp2_with fail
  refine (peek_int B x n w h).mono ?_
  rintro e w' ⟨rfl, rfl⟩
  go_wp2_with fail
  refine (store_int B x y n w h h0 h1).mono ?_
  rintro e w' ⟨rfl, K⟩
  have K := Lib.hid K
  go_wp2
  go_ret
  exact ⟨rfl, K.out⟩
theorem cas_int_yes (B : Nat) (x y : Int) (n : Int) (w : World) (h : CellIs 45 w B (.int .i64 x) n) (h0 : 0 ≤ n) (h1 : n ≤ 1000000000) :
    Calls Try.prog 16 #[.pointer (some ⟨B, 0, none⟩), .int .i64 x, .int .i64 y] w fun e w' => e = .returned (.bool true) ∧ CellIs 45 w' B (.int .i64 y) (n + 1) ∧ Only (· = B) w w' := by
  go_enter Try.func16, Try.ntmps16
  go_wp2_with fail
  refine (access_int B x n w h h0 h1).mono ?_
  rintro e w' ⟨rfl, rfl⟩
  have k := h.set1 (n + 1)
  have c0 := k.cell0
  have hn := Lib.hid ((Only.refl (· = B) w).setCell (p := ⟨B, 1, none⟩) (.inl rfl) (.int .i64 (n + 1)))
  have H := Lib.hid k
  clear h k
  go_wp2_with fail
  refine (same_int_yes x _).mono ?_
  rintro e w2 ⟨rfl, hb⟩
  have k := H.out.only (Only.of_below hb (fun _ => False)) (fun h => h)
  have o2 := hn.out.trans (Only.of_below hb (· = B))
  have c0 := k.cell0
  have f0 := k.frozen 0
  have K := Lib.hid (And.intro (k.set0 (.int .i64 y)) (o2.setCell (p := ⟨B, 0, none⟩) (.inl rfl) (.int .i64 y)))
  clear k o2 hb H hn
  go_wp2
  go_ret
  exact ⟨rfl, K.out⟩
theorem cas_int_no (B : Nat) (x old y : Int) (n : Int) (w : World) (h : CellIs 45 w B (.int .i64 x) n) (h0 : 0 ≤ n) (h1 : n ≤ 1000000000) (hne : x ≠ old) :
    Calls Try.prog 16 #[.pointer (some ⟨B, 0, none⟩), .int .i64 old, .int .i64 y] w fun e w' => e = .returned (.bool false) ∧ CellIs 45 w' B (.int .i64 x) (n + 1) ∧ Only (· = B) w w' := by
  go_enter Try.func16, Try.ntmps16
  go_wp2_with fail
  refine (access_int B x n w h h0 h1).mono ?_
  rintro e w' ⟨rfl, rfl⟩
  have k := h.set1 (n + 1)
  have c0 := k.cell0
  have hn := Lib.hid ((Only.refl (· = B) w).setCell (p := ⟨B, 1, none⟩) (.inl rfl) (.int .i64 (n + 1)))
  have H := Lib.hid k
  clear h k
  go_wp2_with fail
  refine (same_int_no x old _ hne).mono ?_
  rintro e w2 ⟨rfl, hb⟩
  have k := H.out.only (Only.of_below hb (fun _ => False)) (fun h => h)
  have o2 := hn.out.trans (Only.of_below hb (· = B))
  have K := Lib.hid (And.intro k o2)
  clear k o2 hb H hn
  go_wp2
  go_ret
  exact ⟨rfl, K.out⟩
theorem new_int (x : Int) (w : World) :
    Calls Try.prog 6 #[.int .i64 x] w fun e w' => e = .returned (.pointer (some ⟨w.heap.size, 0, none⟩)) ∧ CellIs 45 w' w.heap.size (.int .i64 x) 0 ∧ w'.heap.size = w.heap.size + 1 ∧ Below w.heap.size w w' := by
  go_enter Try.func6, Try.ntmps6
  go_wp2
  go_ret
  exact ⟨rfl, CellIs.new, by simp, (Below.refl _ _).alloc (Nat.le_refl _) _⟩
theorem load_int_nil (w : World) :
    Calls Try.prog 17 #[.pointer none] w fun e w' => e = .returned (.int .i64 0) ∧ w = w' := by
  go_enter Try.func17, Try.ntmps17
  go_wp2_with fail
  refine (access_int_nil w).mono ?_
  rintro e w' ⟨rfl, rfl⟩
  go_wp2_with fail
  refine (peek_int_nil w).mono ?_
  rintro e w' ⟨rfl, rfl⟩
  go_wp2
  go_ret
  exact ⟨rfl, rfl⟩
theorem store_int_nil (y : Int) (w : World) :
    Calls Try.prog 18 #[.pointer none, .int .i64 y] w fun e w' => e = .returned (.tuple #[]) ∧ w = w' := by
  go_enter Try.func18, Try.ntmps18
  go_wp2_with fail
  refine (access_int_nil w).mono ?_
  rintro e w' ⟨rfl, rfl⟩
  go_wp2
  go_end0
  exact ⟨rfl, rfl⟩
theorem swap_int_nil (y : Int) (w : World) :
    Calls Try.prog 19 #[.pointer none, .int .i64 y] w fun e w' => e = .returned (.int .i64 0) ∧ w = w' := by
  go_enter Try.func19, Try.ntmps19
  go_wp2_with fail
  refine (peek_int_nil w).mono ?_
  rintro e w' ⟨rfl, rfl⟩
  go_wp2_with fail
  refine (store_int_nil y w).mono ?_
  rintro e w' ⟨rfl, rfl⟩
  go_wp2
  go_ret
  exact ⟨rfl, rfl⟩
theorem cas_int_nil (x y : Int) (w : World) :
    Calls Try.prog 16 #[.pointer none, .int .i64 x, .int .i64 y] w fun e w' => e = .returned (.bool false) ∧ w = w' := by
  go_enter Try.func16, Try.ntmps16
  go_wp2_with fail
  refine (access_int_nil w).mono ?_
  rintro e w' ⟨rfl, rfl⟩
  go_wp2
  go_ret
  exact ⟨rfl, rfl⟩

/-! ### string -/
theorem same_string_idle (p : Addr) (w : World) :
    CallsD Try.prog 25 #[.pointer (some p)] .returning w fun e u' w' => e = .returned (.tuple #[]) ∧ u' = .returning ∧ w' = w := by
  refine callsD_of_wpS Try.func25 rfl fun c₀ cs hu => ?_
  apply wpS_seq
  apply wpS_region
  simp [wpOpsS, go_sem, recoverD, hu, Try.ntmps25, Exit.thenS]
  refine wpS_cond (t := false) (by simp [Act.eval, Array.replicate]) ?_
  simp only [Bool.false_eq_true, if_false]
  refine wpS_of_wp (wp_skip ?_)
  cases c₀
  simp_all [bodyPostS, results, Try.results25]
theorem same_string (a b : ByteArray) (w : World) :
    Calls Try.prog 21 #[.string a, .string b] w fun e w' => e = .returned (.bool (a.toList == b.toList)) ∧ Below w.heap.size w w' := by
  have hmf : ∀ (fn : Fn) (first cap : Array Value) (w : World), (Instr.makeFunc fn first cap).run Try.prog w = .ok (.func fn first cap) w := fun _ _ _ _ => rfl
  go_enter_defers Try.func21, Try.ntmps21
  go_wp2
  refine leaves_cons (f := 25) (args := #[.pointer (some ⟨w.heap.size, 0, none⟩)]) (by simp) (by simp [go_sem]) ?_
  refine (same_string_idle ⟨w.heap.size, 0, none⟩ _).mono ?_
  rintro e u' w'' ⟨rfl, rfl, rfl⟩
  simp [Leaves, settle, results, Try.results21, go_sem]
  exact (Below.refl _ _).alloc (Nat.le_refl _) _
theorem same_string_yes (a : ByteArray) (w : World) :
    Calls Try.prog 21 #[.string a, .string a] w fun e w' => e = .returned (.bool true) ∧ Below w.heap.size w w' :=
  (same_string a a w).mono fun e w' ⟨h, hb⟩ => ⟨by rw [h, show (a.toList == a.toList) = true from eqB a a rfl], hb⟩
theorem same_string_no (a b : ByteArray) (w : World) (hab : a ≠ b) :
    Calls Try.prog 21 #[.string a, .string b] w fun e w' => e = .returned (.bool false) ∧ Below w.heap.size w w' :=
  (same_string a b w).mono fun e w' ⟨h, hb⟩ => ⟨by rw [h, show (a.toList == b.toList) = false from neB a b hab], hb⟩

theorem access_string (B : Nat) (x : ByteArray) (n : Int) (w : World) (h : CellIs 38 w B (.string x) n) (h0 : 0 ≤ n) (h1 : n ≤ 1000000000) :
    Calls Try.prog 20 #[.pointer (some ⟨B, 0, none⟩)] w fun e w' => e = .returned (.bool true) ∧ w.setCell ⟨B, 1, none⟩ (.int .i64 (n + 1)) = w' := by
  have c1 := h.cell1
  have f1 := h.frozen 1
  go_enter Try.func20, Try.ntmps20
  go_wp2
  go_ret
  exact ⟨rfl, rfl⟩
theorem access_string_nil (w : World) :
    Calls Try.prog 20 #[.pointer none] w fun e w' => e = .returned (.bool false) ∧ w = w' := by
  go_enter Try.func20, Try.ntmps20
  go_wp2
  go_ret
  exact ⟨rfl, rfl⟩
theorem peek_string (B : Nat) (x : ByteArray) (n : Int) (w : World) (h : CellIs 38 w B (.string x) n) :
    Calls Try.prog 11 #[.pointer (some ⟨B, 0, none⟩)] w fun e w' => e = .returned (.string x) ∧ w = w' := by
  have c1 := h.cell0
  go_enter Try.func11, Try.ntmps11
  go_wp2
  go_ret
  exact ⟨rfl, rfl⟩
theorem peek_string_nil (w : World) :
    Calls Try.prog 11 #[.pointer none] w fun e w' => e = .returned (.string ⟨#[]⟩) ∧ w = w' := by
  go_enter Try.func11, Try.ntmps11
  go_wp2
  go_ret
  exact ⟨rfl, rfl⟩
theorem count_string (B : Nat) (x : ByteArray) (n : Int) (w : World) (h : CellIs 38 w B (.string x) n) :
    Calls Try.prog 12 #[.pointer (some ⟨B, 0, none⟩)] w fun e w' => e = .returned (.int .i64 n) ∧ w = w' := by
  have c1 := h.cell1
  go_enter Try.func12, Try.ntmps12
  go_wp2
  go_ret
  exact ⟨rfl, rfl⟩

theorem load_string (B : Nat) (x : ByteArray) (n : Int) (w : World) (h : CellIs 38 w B (.string x) n) (h0 : 0 ≤ n) (h1 : n ≤ 1000000000) :
    Calls Try.prog 13 #[.pointer (some ⟨B, 0, none⟩)] w fun e w' => e = .returned (.string x) ∧ CellIs 38 w' B (.string x) (n + 1) ∧ Only (· = B) w w' := by
  go_enter Try.func13, Try.ntmps13
  go_wp2_with fail
  refine (access_string B x n w h h0 h1).mono ?_
  rintro e w' ⟨rfl, rfl⟩
  go_wp2_with fail
  refine (peek_string B x (n + 1) _ (h.set1 (n + 1))).mono ?_
  rintro e w' ⟨rfl, rfl⟩
  go_wp2
  go_ret
  exact ⟨rfl, h.set1 (n + 1), (Only.refl (· = B) w).setCell (p := ⟨B, 1, none⟩) (.inl rfl) _⟩
theorem store_string (B : Nat) (x y : ByteArray) (n : Int) (w : World) (h : CellIs 38 w B (.string x) n) (h0 : 0 ≤ n) (h1 : n ≤ 1000000000) :
    Calls Try.prog 22 #[.pointer (some ⟨B, 0, none⟩), .string y] w fun e w' => e = .returned (.tuple #[]) ∧ CellIs 38 w' B (.string y) (n + 1) ∧ Only (· = B) w w' := by
  go_enter Try.func22, Try.ntmps22
  go_wp2_with fail
  refine (access_string B x n w h h0 h1).mono ?_
  rintro e w' ⟨rfl, rfl⟩
  have c0 := (h.set1 (n + 1)).cell0
  have f0 := (h.set1 (n + 1)).frozen 0
  have K := Lib.hid (And.intro ((h.set1 (n + 1)).set0 (.string y)) (((Only.refl (· = B) w).setCell (p := ⟨B, 1, none⟩) (.inl rfl) (.int .i64 (n + 1))).setCell (p := ⟨B, 0, none⟩) (.inl rfl) (.string y)))
  clear h
  go_wp2
  go_end0
  exact ⟨rfl, K.out⟩
theorem swap_string (B : Nat) (x y : ByteArray) (n : Int) (w : World) (h : CellIs 38 w B (.string x) n) (h0 : 0 ≤ n) (h1 : n ≤ 1000000000) :
    Calls Try.prog 15 #[.pointer (some ⟨B, 0, none⟩), .string y] w fun e w' => e = .returned (.string x) ∧ CellIs 38 w' B (.string y) (n + 1) ∧ Only (· = B) w w' := by
  go_enter Try.func15, Try.ntmps15
  go_wp2_with fail
  refine (peek_string B x n w h).mono ?_
  rintro e w' ⟨rfl, rfl⟩
  go_wp2_with fail
  refine (store_string B x y n w h h0 h1).mono ?_
  rintro e w' ⟨rfl, K⟩
  have K := Lib.hid K
  go_wp2
  go_ret
  exact ⟨rfl, K.out⟩
theorem cas_string_yes (B : Nat) (x y : ByteArray) (n : Int) (w : World) (h : CellIs 38 w B (.string x) n) (h0 : 0 ≤ n) (h1 : n ≤ 1000000000) :
    Calls Try.prog 14 #[.pointer (some ⟨B, 0, none⟩), .string x, .string y] w fun e w' => e = .returned (.bool true) ∧ CellIs 38 w' B (.string y) (n + 1) ∧ Only (· = B) w w' := by
  go_enter Try.func14, Try.ntmps14
  go_wp2_with fail
  refine (access_string B x n w h h0 h1).mono ?_
  rintro e w' ⟨rfl, rfl⟩
  have k := h.set1 (n + 1)
  have c0 := k.cell0
  have hn := Lib.hid ((Only.refl (· = B) w).setCell (p := ⟨B, 1, none⟩) (.inl rfl) (.int .i64 (n + 1)))
  have H := Lib.hid k
  clear h k
  go_wp2_with fail
  refine (same_string_yes x _).mono ?_
  rintro e w2 ⟨rfl, hb⟩
  have k := H.out.only (Only.of_below hb (fun _ => False)) (fun h => h)
  have o2 := hn.out.trans (Only.of_below hb (· = B))
  have c0 := k.cell0
  have f0 := k.frozen 0
  have K := Lib.hid (And.intro (k.set0 (.string y)) (o2.setCell (p := ⟨B, 0, none⟩) (.inl rfl) (.string y)))
  clear k o2 hb H hn
  go_wp2
  go_ret
  exact ⟨rfl, K.out⟩
theorem cas_string_no (B : Nat) (x old y : ByteArray) (n : Int) (w : World) (h : CellIs 38 w B (.string x) n) (h0 : 0 ≤ n) (h1 : n ≤ 1000000000) (hne : x ≠ old) :
    Calls Try.prog 14 #[.pointer (some ⟨B, 0, none⟩), .string old, .string y] w fun e w' => e = .returned (.bool false) ∧ CellIs 38 w' B (.string x) (n + 1) ∧ Only (· = B) w w' := by
  go_enter Try.func14, Try.ntmps14
  go_wp2_with fail
  refine (access_string B x n w h h0 h1).mono ?_
  rintro e w' ⟨rfl, rfl⟩
  have k := h.set1 (n + 1)
  have c0 := k.cell0
  have hn := Lib.hid ((Only.refl (· = B) w).setCell (p := ⟨B, 1, none⟩) (.inl rfl) (.int .i64 (n + 1)))
  have H := Lib.hid k
  clear h k
  go_wp2_with fail
  refine (same_string_no x old _ hne).mono ?_
  rintro e w2 ⟨rfl, hb⟩
  have k := H.out.only (Only.of_below hb (fun _ => False)) (fun h => h)
  have o2 := hn.out.trans (Only.of_below hb (· = B))
  have K := Lib.hid (And.intro k o2)
  clear k o2 hb H hn
  go_wp2
  go_ret
  exact ⟨rfl, K.out⟩


end Go.Proofs.Ytimggoikjipblaa
