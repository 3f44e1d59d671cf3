/- Layer 7 (package hist): moments and places of a log. -/
import Derived.Test.YtjkabbabhfipbaaHist7
import Derived.Defers
import Derived.BigQuiet
import Derived.Deep.QuietTactic
import Derived.BigRegion
namespace Go.Proofs.Ytjkabbabhfipbaa
open Go.RowKit

theorem intKeyed : Maps.Keyed Try.prog 3 := Maps.int_keyed Try.underlying3
theorem zeroInt (w : World) : (zeroValue 3).run Try.prog w = .ok (.int .i64 0) w := by kernel_rfl
theorem mf7 : ∀ (fn : Fn) (first cap : Array Value) (w : World), (Instr.makeFunc fn first cap).run Try.prog w = .ok (.func fn first cap) w := fun _ _ _ _ => rfl

theorem moment_1 (p : Nat) (Bl : Nat) (now : Nat) (hnow : now ≤ 1000000) (u : FrameMode) (w : World) (cp : w.cell? ⟨p, 0, none⟩ = some (.pointer (some ⟨Bl, 0, none⟩))) (cn : w.cell? ⟨Bl, 2, none⟩ = some (.int .i64 now)) (fn : w.frozen? ⟨Bl, 2, none⟩ = false) :
    CallsD Try.prog 30 #[.pointer (some ⟨p, 0, none⟩)] u w fun e u' w' => u' = u ∧ (e = .returned (.tuple #[]) ∧ w' = w.setCell ⟨Bl, 2, none⟩ (.int .i64 ((now : Int) + 1))) := by
  go_enter_d Try.func30, Try.ntmps30
  go_wp2
  go_end0
  exact ⟨rfl, rfl⟩
theorem log_moment {Bl : Nat} {now : Nat} {cv mv : Value} (hnow : now ≤ 1000000) {w : World} (h : Blk 59 w Bl [cv, mv, .int .i64 now]) :
    Calls Try.prog 21 #[.pointer (some ⟨Bl, 0, none⟩)] w fun e w' => e = .returned (.int .i64 ((now : Int) + 1)) ∧ w' = (w.alloc (.cells #[.pointer (some ⟨Bl, 0, none⟩)] 24)).setCell ⟨Bl, 2, none⟩ (.int .i64 ((now : Int) + 1)) := by
  have hmf := mf7
  have h1 := h.alloc (.cells #[.pointer (some ⟨Bl, 0, none⟩)] 24)
  have c2 := h1.at (o := 2) rfl
  have f2 := h1.frozen 2
  have cp := (Blk.new (W := w) (t := 24) (l := [.pointer (some ⟨Bl, 0, none⟩)])).at (o := 0) rfl
  have K := Lib.hid (And.intro c2 (And.intro f2 cp))
  go_enter_defers Try.func21, Try.ntmps21
  go_wp2
  refine leaves_cons (f := 30) (args := #[.pointer (some ⟨w.heap.size, 0, none⟩)]) (by simp) (by simp [go_sem]) ?_
  refine (moment_1 w.heap.size Bl now hnow .returning _ K.out.2.2 K.out.1 K.out.2.1).mono ?_
  rintro e u' w'' ⟨rfl, rfl, rfl⟩
  exact ⟨_, results_tmp rfl _ _ _, rfl, rfl⟩

theorem place_1 {p q Bl b : Nat} {n : Nat} {th : Int} {M : Int → Option Value} {c : Nat} (u : FrameMode) (w : World) (cp : w.cell? ⟨p, 0, none⟩ = some (.pointer (some ⟨Bl, 0, none⟩))) (cq : w.cell? ⟨q, 0, none⟩ = some (.int .i64 th))
    (cm : w.cell? ⟨Bl, 1, none⟩ = some (.map (some b))) (hM : MapF Try.prog 3 w b n M) (hn : n ≤ 1000000) (hth : wf64 th) (hc : (M th).getD (.int .i64 0) = .int .i64 c) (hc1 : c ≤ 1000000) :
    CallsD Try.prog 29 #[.pointer (some ⟨p, 0, none⟩), .pointer (some ⟨q, 0, none⟩)] u w fun e u' w' => u' = u ∧ (e = .returned (.tuple #[]) ∧ MapF Try.prog 3 w' b (n + 1) (updM M th (.int .i64 ((c : Int) + 1))) ∧ Only (· = b) w w') := by
  have hM' : MapF Try.prog 3 w.drew b n M := hM
  have hl := hM'.look intKeyed Try.underlying3 Try.underlying57 (zeroInt _) hth
  rw [hc] at hl
  obtain ⟨W', hrun, hm, ho⟩ := hM'.put intKeyed Try.underlying3 Try.underlying57 (by simp only [maxLen]; omega) hth (.int .i64 ((c : Int) + 1))
  have K := Lib.hid (And.intro hm (show Only (· = b) w W' from ⟨ho.os, ho.tape, ho.output, ho.size, ho.block⟩))
  clear hm ho hM hM'
  go_enter_d Try.func29, Try.ntmps29
  go_wp2
  go_region
  all_goals
    go_wp2
    go_end0
    first | exact ⟨rfl, rfl, K.out.1, K.out.2⟩ | exact ⟨rfl, K.out.1, K.out.2⟩ | exact ⟨K.out.1, K.out.2⟩

/-- How many calls of each thread began. -/
def BeganIs (w : World) (mv : Value) (n : Nat) (f : Int → Nat) : Prop :=
  (mv = .map none ∧ ∀ x, f x = 0) ∨ ∃ b M, mv = .map (some b) ∧ MapF Try.prog 3 w b n M ∧ ∀ x, wf64 x → (M x).getD (.int .i64 0) = .int .i64 (f x : Nat)
theorem BeganIs.only {w w' : World} {mv : Value} {n : Nat} {f : Int → Nat} {S : Nat → Prop} (h : BeganIs w mv n f) (ho : Only S w w') (hS : ∀ b, mv = .map (some b) → ¬ S b) : BeganIs w' mv n f := by
  rcases h with h | ⟨b, M, e, hM, hf⟩
  · exact .inl h
  · exact .inr ⟨b, M, e, hM.only ho (hS b e), hf⟩
theorem BeganIs.lt {w : World} {mv : Value} {n : Nat} {f : Int → Nat} (h : BeganIs w mv n f) {b : Nat} (e : mv = .map (some b)) : b < w.heap.size := by
  rcases h with ⟨h, _⟩ | ⟨b', M, e', hM, _⟩
  · rw [h] at e; cases e
  · rw [e'] at e; cases e; exact hM.lt
def upF (f : Int → Nat) (x : Int) : Int → Nat := fun y => if y = x then f y + 1 else f y
theorem began_up {w : World} {b n : Nat} {f : Int → Nat} {M : Int → Option Value} {th : Int} (hM : MapF Try.prog 3 w b (n + 1) (updM M th (.int .i64 ((f th : Int) + 1)))) (hf : ∀ x, wf64 x → (M x).getD (.int .i64 0) = .int .i64 (f x : Nat)) : BeganIs w (.map (some b)) (n + 1) (upF f th) := by
  refine .inr ⟨b, _, rfl, hM, fun x hx => ?_⟩
  unfold updM upF
  by_cases e : x = th
  · subst e; simp
  · simp only [if_neg e]; exact hf x hx
structure PlaceTo (Bl : Nat) (cv mv : Value) (n : Nat) (f : Int → Nat) (now : Int) (th : Int) (w : World) (e : Ending) (w' : World) : Prop where
  told : e = .returned (.int .i64 (f th : Nat))
  ex : ∃ mv', Blk 59 w' Bl [cv, mv', .int .i64 now] ∧ BeganIs w' mv' (n + 1) (upF f th) ∧ (mv' = mv ∨ ∃ b, mv' = .map (some b) ∧ w.heap.size ≤ b)
  only : Only (fun k => k = Bl ∨ mv = .map (some k)) w w'

end Go.Proofs.Ytjkabbabhfipbaa
