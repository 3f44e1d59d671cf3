/- Layer 4: what is done to a cell, the document's answer, the example. -/
import Derived.Test.YtimggoikjipblaaCell4
import Derived.Test.YtimggoikjipblaaRecs
import Derived.Deep.CutBlock
import Derived.Deep.LoopGhost
import Derived.BigQuiet
namespace Go.Proofs.Ytimggoikjipblaa
open Go.RowKit

/-- An access (kind, old, x) of a cell with v: what is in it behind that; what is answered. -/
def accV (k old x v : Int) : Int := if k = 0 then v else if k = 1 then x else if k = 2 then x else if v = old then x else v
def accA (k v : Int) : Int := if k = 0 then v else if k = 1 then 0 else if k = 2 then v else 0
def accB (k old v : Int) : Bool := if k = 0 then false else if k = 1 then false else if k = 2 then false else decide (v = old)
abbrev accV3 (k old x : Int) : Value := .agg #[.int .i64 k, .int .i64 old, .int .i64 x]

/-- What is answered, and the cell behind it. -/
structure Did (t : TypeId) (k old x v n : Int) (B : Nat) (w w' : World) (e : Ending) : Prop where
  told : e = .returned (.tuple #[.int .i64 (accA k v), .bool (accB k old v)])
  cell : CellIs t w' B (.int .i64 (accV k old x v)) (n + 1)
  only : Only (· = B) w w'

theorem do_cell (B : Nat) (k old x v n : Int) (w : World) (h : CellIs 45 w B (.int .i64 v) n) (h0 : 0 ≤ n) (h1 : n ≤ 1000000) :
    Calls Try.prog 7 #[.pointer (some ⟨B, 0, none⟩), accV3 k old x] w fun e w' => Did 45 k old x v n B w w' e := by
  have hO : ∀ o, Only (· = B) w (w.alloc o) := fun o => (Only.refl _ _).alloc o
  have hA : ∀ o, CellIs 45 (w.alloc o) B (.int .i64 v) n := fun o => h.only ((Only.refl (fun _ => False) _).alloc o) (fun h => h)
  have hO := Lib.hid hO
  have hA := Lib.hid hA
  clear h
  by_cases e0 : k = 0
  · subst e0
    go_enter Try.func7, Try.ntmps7
    go_wp2_with fail
    refine (load_int B v n _ (hA.out _) h0 (by omega)).mono ?_
    rintro e w' ⟨rfl, hc, ho⟩
    have K := Lib.hid (And.intro hc ((hO.out _).trans ho))
    clear hc ho
    go_wp2
    go_ret2
    exact ⟨rfl, K.out.1, K.out.2⟩
  have e0' : (k == 0) = false := neI _ _ e0
  by_cases e1 : k = 1
  · subst e1
    go_enter Try.func7, Try.ntmps7
    go_wp2_with fail
    refine (store_int B v x n _ (hA.out _) h0 (by omega)).mono ?_
    rintro e w' ⟨rfl, hc, ho⟩
    have K := Lib.hid (And.intro hc ((hO.out _).trans ho))
    clear hc ho
    go_wp2
    go_ret2
    exact ⟨rfl, K.out.1, K.out.2⟩
  have e1' : (k == 1) = false := neI _ _ e1
  by_cases e2 : k = 2
  · subst e2
    go_enter Try.func7, Try.ntmps7
    go_wp2_with fail
    refine (swap_int B v x n _ (hA.out _) h0 (by omega)).mono ?_
    rintro e w' ⟨rfl, hc, ho⟩
    have K := Lib.hid (And.intro hc ((hO.out _).trans ho))
    clear hc ho
    go_wp2
    go_ret2
    exact ⟨rfl, K.out.1, K.out.2⟩
  have e2' : (k == 2) = false := neI _ _ e2
  by_cases e3 : v = old
  · subst e3
    have R := Lib.hid (show accA k v = 0 ∧ accB k v v = true ∧ accV k v x v = x by simp [accA, accB, accV, e0, e1, e2])
    clear e0 e1 e2
    go_enter Try.func7, Try.ntmps7
    go_wp2_with fail
    refine (cas_int_yes B v x n _ (hA.out _) h0 (by omega)).mono ?_
    rintro e w' ⟨rfl, hc, ho⟩
    have K := Lib.hid (And.intro hc ((hO.out _).trans ho))
    clear hc ho
    go_wp2
    go_ret2
    exact ⟨by rw [R.out.1, R.out.2.1]; rfl, by rw [R.out.2.2]; exact K.out.1, K.out.2⟩
  · have R := Lib.hid (show accA k v = 0 ∧ accB k old v = false ∧ accV k old x v = v by simp [accA, accB, accV, e0, e1, e2, e3])
    have E3 := Lib.hid e3
    clear e0 e1 e2 e3
    go_enter Try.func7, Try.ntmps7
    go_wp2_with fail
    refine (cas_int_no B v old x n _ (hA.out _) h0 (by omega) E3.out).mono ?_
    rintro e w' ⟨rfl, hc, ho⟩
    have K := Lib.hid (And.intro hc ((hO.out _).trans ho))
    clear hc ho
    go_wp2
    go_ret2
    exact ⟨by rw [R.out.1, R.out.2.1]; rfl, by rw [R.out.2.2]; exact K.out.1, K.out.2⟩

/-- Of a nil cell: zeros. -/
theorem do_nil (k old x : Int) (w : World) :
    Calls Try.prog 7 #[.pointer none, accV3 k old x] w fun e w' => e = .returned (.tuple #[.int .i64 0, .bool false]) ∧ Below w.heap.size w w' := by
  by_cases e0 : k = 0
  · subst e0
    go_enter Try.func7, Try.ntmps7
    go_wp2_with fail
    refine (load_int_nil _).mono ?_
    rintro e w' ⟨rfl, rfl⟩
    go_wp2
    go_ret2
    exact ⟨rfl, (Below.refl _ _).alloc (Nat.le_refl _) _⟩
  have e0' : (k == 0) = false := neI _ _ e0
  by_cases e1 : k = 1
  · subst e1
    go_enter Try.func7, Try.ntmps7
    go_wp2_with fail
    refine (store_int_nil x _).mono ?_
    rintro e w' ⟨rfl, rfl⟩
    go_wp2
    go_ret2
    exact ⟨rfl, (Below.refl _ _).alloc (Nat.le_refl _) _⟩
  have e1' : (k == 1) = false := neI _ _ e1
  by_cases e2 : k = 2
  · subst e2
    go_enter Try.func7, Try.ntmps7
    go_wp2_with fail
    refine (swap_int_nil x _).mono ?_
    rintro e w' ⟨rfl, rfl⟩
    go_wp2
    go_ret2
    exact ⟨rfl, (Below.refl _ _).alloc (Nat.le_refl _) _⟩
  have e2' : (k == 2) = false := neI _ _ e2
  go_enter Try.func7, Try.ntmps7
  go_wp2_with fail
  refine (cas_int_nil old x _).mono ?_
  rintro e w' ⟨rfl, rfl⟩
  go_wp2
  go_ret2
  exact ⟨rfl, (Below.refl _ _).alloc (Nat.le_refl _) _⟩

/-- The document's answer. -/
theorem ref_do (B : Nat) (k old x v n : Int) (w : World) (h : CellIs 28 w B (.int .i64 v) n) (h0 : 0 ≤ n) (h1 : n ≤ 1000000) :
    Calls Try.prog 8 #[.pointer (some ⟨B, 0, none⟩), .int .i64 k, .int .i64 old, .int .i64 x] w fun e w' => Did 28 k old x v n B w w' e := by
  have c0 := h.cell0
  have c1 := h.cell1
  have f1 := h.frozen 1
  have k0 := (h.set1 (n + 1)).cell0
  have g0 := (h.set1 (n + 1)).frozen 0
  have K1 := Lib.hid (h.set1 (n + 1))
  have K2 := Lib.hid ((h.set1 (n + 1)).set0 (.int .i64 x))
  have O1 := Lib.hid ((Only.refl (· = B) w).setCell (p := ⟨B, 1, none⟩) (.inl rfl) (.int .i64 (n + 1)))
  have O2 := Lib.hid (O1.out.setCell (p := ⟨B, 0, none⟩) (.inl rfl) (.int .i64 x))
  clear h
  by_cases e0 : k = 0
  · subst e0
    go_enter Try.func8, Try.ntmps8
    go_wp2
    go_ret2
    exact ⟨rfl, K1.out, O1.out⟩
  have e0' : (k == 0) = false := neI _ _ e0
  by_cases e1 : k = 1
  · subst e1
    go_enter Try.func8, Try.ntmps8
    go_wp2
    go_ret2
    exact ⟨rfl, K2.out, O2.out⟩
  have e1' : (k == 1) = false := neI _ _ e1
  by_cases e2 : k = 2
  · subst e2
    go_enter Try.func8, Try.ntmps8
    go_wp2
    go_ret2
    exact ⟨rfl, K2.out, O2.out⟩
  have e2' : (k == 2) = false := neI _ _ e2
  by_cases e3 : v = old
  · subst e3
    have R := Lib.hid (show accA k v = 0 ∧ accB k v v = true ∧ accV k v x v = x by simp [accA, accB, accV, e0, e1, e2])
    clear e0 e1 e2
    go_enter Try.func8, Try.ntmps8
    go_wp2
    go_ret2
    exact ⟨by rw [R.out.1, R.out.2.1]; rfl, by rw [R.out.2.2]; exact K2.out, O2.out⟩
  · have R := Lib.hid (show accA k v = 0 ∧ accB k old v = false ∧ accV k old x v = v by simp [accA, accB, accV, e0, e1, e2, e3])
    have E3 : (v == old) = false := neI _ _ e3
    clear e0 e1 e2 e3
    go_enter Try.func8, Try.ntmps8
    go_wp2
    go_ret2
    exact ⟨by rw [R.out.1, R.out.2.1]; rfl, by rw [R.out.2.2]; exact K1.out, O1.out⟩

theorem awake4 (w : World) : Calls Try.prog 5 #[] w fun e w' => e = .returned (.bool true) ∧ Below w.heap.size w w' := by
  go_enter Try.func5, Try.ntmps5
  go_wp2_with fail
  refine (new_int 1 w).mono ?_
  rintro e w1 ⟨rfl, hc, hz, hb⟩
  have Z := Lib.hid hz
  have B1 := Lib.hid hb
  clear hz hb
  go_wp2_with fail
  refine (cas_int_yes w.heap.size 1 2 0 _ hc (by omega) (by omega)).mono ?_
  rintro e w2 ⟨rfl, hc2, ho2⟩
  have B2 := Lib.hid (Only.below_step (by have := B1.out.size; omega) B1.out ho2 (fun i hi e => by omega))
  clear hc ho2 B1
  go_wp2_with fail
  refine (cas_int_no w.heap.size 2 1 3 (0 + 1) _ hc2 (by omega) (by omega) (by decide)).mono ?_
  rintro e w3 ⟨rfl, hc3, ho3⟩
  have B3 := Lib.hid (Only.below_step (by have := B2.out.size; omega) B2.out ho3 (fun i hi e => by omega))
  clear hc2 ho3 B2
  go_wp2_with fail
  refine (peek_int w.heap.size 2 (0 + 1 + 1) _ hc3).mono ?_
  rintro e w4 ⟨rfl, rfl⟩
  go_wp2
  go_ret
  exact ⟨rfl, B3.out⟩

end Go.Proofs.Ytimggoikjipblaa
