/- Layer 9 (package epoch): epochs in memory; New, has, Pinned, with, Now, Waiting. -/
import Derived.Test.YtkbappdlijmjlaaOwn3
import Derived.Test.YtkbappdlijmjlaaMade
import Derived.BigQuiet
import Derived.Deep.LoopGhost
import Derived.Deep.QuietTactic
import Derived.IntWalk
namespace Go.Proofs.Ytkbappdlijmjlaa
open Go.RowKit

/-- A pin: at which epoch, if at all. -/
def pinV : Option Nat → List Value
  | none => [.bool false, .int .i64 0]
  | some e => [.bool true, .int .i64 (e : Int)]
theorem pinV_len (p : Option Nat) : (pinV p).length = 2 := by cases p <;> rfl
theorem pinV_0 (p : Option Nat) : (pinV p)[0]? = some (.bool p.isSome) := by cases p <;> rfl
theorem pinV_1 (p : Option Nat) : (pinV p)[1]? = some (.int .i64 ((p.getD 0 : Nat) : Int)) := by cases p <;> rfl
structure Ep where
  now : Nat
  pins : List (Option Nat)
  q : Nat → List Int
def epV (x : Ep) (P : Nat) (v : Nat → Value) : List Value := [.int .i64 (x.now : Int), .slice (some ⟨P, 0, none⟩) x.pins.length x.pins.length, v 0, v 1, v 2]
theorem epV_at {x : Ep} {P j : Nat} {v : Nat → Value} (hj : j < 3) : (epV x P v)[2 + j]? = some (v j) := by
  match j, hj with
  | 0, _ => rfl
  | 1, _ => rfl
  | 2, _ => rfl
theorem epV_set {x : Ep} {P j : Nat} {v : Nat → Value} (hj : j < 3) (u : Value) : (epV x P v).set (2 + j) u = epV x P (upd v j u) := by
  match j, hj with
  | 0, _ => rfl
  | 1, _ => rfl
  | 2, _ => rfl
def EpBlk (B P : Nat) (v : Nat → Value) (k : Nat) : Prop := k = B ∨ k = P ∨ InV v k
/-- Epochs at B, their pins in block P. -/
structure EpIs (w : World) (lo B P : Nat) (v : Nat → Value) (x : Ep) : Prop where
  blk : Blk 49 w B (epV x P v)
  row : Blk 51 w P (x.pins.flatMap pinV)
  own : Own3 w lo v x.q
section
variable {w w' : World} {lo B P : Nat} {v : Nat → Value} {x : Ep}
theorem EpIs.ne (h : EpIs w lo B P v x) : B ≠ P := fun e => by
  have h1 : w.heap[B]? = _ := h.blk
  have h2 : w.heap[P]? = _ := h.row
  rw [e, h2] at h1
  injection h1 with h1
  injection h1 with _ h1
  exact absurd h1 (by decide)
theorem EpIs.apartB (h : EpIs w lo B P v x) {k : Nat} (hk : InV v k) : k ≠ B := by
  obtain ⟨j, hj, e⟩ := hk
  exact fun e' => blk_apart h.blk (h.own.own j hj) e (by decide) e'.symm
theorem EpIs.apartP (h : EpIs w lo B P v x) {k : Nat} (hk : InV v k) : k ≠ P := by
  obtain ⟨j, hj, e⟩ := hk
  exact fun e' => blk_apart h.row (h.own.own j hj) e (by decide) e'.symm
theorem EpIs.lt (h : EpIs w lo B P v x) {k : Nat} (hk : EpBlk B P v k) : k < w.heap.size := by
  rcases hk with rfl | rfl | hk
  · exact h.blk.lt
  · exact h.row.lt
  · exact (h.own.lt hk).2
theorem EpIs.only {S : Nat → Prop} (h : EpIs w lo B P v x) (ho : Only S w w') (hS : ∀ k, EpBlk B P v k → ¬ S k) : EpIs w' lo B P v x :=
  ⟨h.blk.only ho (hS B (.inl rfl)), h.row.only ho (hS P (.inr (.inl rfl))), h.own.only ho (fun k hk => hS k (.inr (.inr hk)))⟩
theorem EpIs.below (h : EpIs w lo B P v x) (hb : Below w.heap.size w w') : EpIs w' lo B P v x := h.only (Only.of_below hb (fun _ => False)) (fun _ _ h => h)
theorem EpIs.drewN (h : EpIs w lo B P v x) (n : Nat) : EpIs (w.drewN n) lo B P v x := h.below (below_draws (Below.refl _ _) n)
theorem EpIs.pin (h : EpIs w lo B P v x) {i : Nat} {p : Option Nat} (hp : x.pins[i]? = some p) : w.cell? ⟨P, i * 2, none⟩ = some (.bool p.isSome) ∧ w.cell? ⟨P, i * 2 + 1, none⟩ = some (.int .i64 ((p.getD 0 : Nat) : Int)) :=
  ⟨h.row.at (flat_at pinV_len hp (pinV_0 p)), h.row.at (flat_at pinV_len hp (pinV_1 p))⟩
end
theorem infoPin : (Try.prog.info? 51).map (fun i => (i.zero, i.size, i.bytes)) = some (some (.agg #[.bool false, .int .i64 0]), 2, 16) := by kernel_rfl

/-- How many threads. -/
def thr (k : Int) : Nat := (min (max k 0) 64).toNat
theorem ep_made {w : World} {M : Array Value} {m : Nat} (hM : M.toList = (List.replicate m (none : Option Nat)).flatMap pinV) :
    EpIs ((w.alloc (.cells M 51)).alloc (.cells #[.int .i64 0, .slice (some ⟨w.heap.size, 0, none⟩) m m, .slice none 0 0, .slice none 0 0, .slice none 0 0] 49)) w.heap.size (w.heap.size + 1) w.heap.size (fun _ => .slice none 0 0) ⟨0, List.replicate m none, fun _ => []⟩ ∧
    Below w.heap.size w ((w.alloc (.cells M 51)).alloc (.cells #[.int .i64 0, .slice (some ⟨w.heap.size, 0, none⟩) m m, .slice none 0 0, .slice none 0 0, .slice none 0 0] 49)) := by
  have hb : Blk 51 (w.alloc (.cells M 51)) w.heap.size M.toList := Blk.new (l := M.toList)
  have := Blk.new (t := 49) (W := w.alloc (.cells M 51)) (l := epV ⟨0, List.replicate m none, fun _ => []⟩ w.heap.size (fun _ => .slice none 0 0))
  refine ⟨⟨?_, ?_, Own3.nil _ _⟩, ((Below.refl _ _).alloc (Nat.le_refl _) _).alloc (by simp) _⟩
  · simpa [epV] using this
  · rw [← hM]; exact hb.alloc _
theorem ep_New (k : Int) (w : World) : Calls Try.prog 7 #[.int .i64 k] w fun e w' => e = .returned (.pointer (some ⟨w.heap.size + 1, 0, none⟩)) ∧ EpIs w' w.heap.size (w.heap.size + 1) w.heap.size (fun _ => .slice none 0 0) ⟨0, List.replicate (thr k) none, fun _ => []⟩ ∧ Below w.heap.size w w' := by
  obtain ⟨m, hm⟩ : ∃ m, thr k = m := ⟨_, rfl⟩
  rw [hm]
  have hm64 : m ≤ 64 := by unfold thr at hm; omega
  have hmk := run_make_recs (P := Try.prog) Try.underlying46 infoPin m (by omega) (by omega) w
  have F := Lib.hid (ep_made (w := w) ((recRow_made (c := 2) (f := pinV) (z := (Value.agg #[.bool false, .int .i64 0]).cells) none rfl rfl m).flat (by omega) pinV_len))
  generalize madeCells (Value.agg #[.bool false, .int .i64 0]).cells (m * 2) = M at hmk F
  by_cases h0 : k < 0
  · obtain rfl : m = 0 := by unfold thr at hm; omega
    clear hm
    have hmk' : Sem.run Try.prog (Instr.makeSlice 46 (.int .i64 0) (.int .i64 0)) w = _ := hmk
    clear hmk
    go_enter Try.func7, Try.ntmps7
    go_wp2
    all_goals
      go_ret
      exact ⟨by first | rfl | simp, F.out⟩
  · by_cases h1 : k ≤ 64
    · obtain rfl : k = (m : Int) := by unfold thr at hm; omega
      clear hm
      go_enter Try.func7, Try.ntmps7
      go_wp2
      all_goals
        go_ret
        exact ⟨by first | rfl | simp, F.out⟩
    · obtain rfl : m = 64 := by unfold thr at hm; omega
      clear hm
      have hmk' : Sem.run Try.prog (Instr.makeSlice 46 (.int .i64 64) (.int .i64 64)) w = _ := hmk
      clear hmk
      go_enter Try.func7, Try.ntmps7
      go_wp2
      all_goals
        go_ret
        exact ⟨by first | rfl | simp, F.out⟩
def hasT (x : Ep) (t : Int) : Bool := decide (0 ≤ t) && decide (t < (x.pins.length : Int))
theorem ep_has {w : World} {lo B P : Nat} {v : Nat → Value} {x : Ep} (h : EpIs w lo B P v x) (t : Int) : Calls Try.prog 23 #[.pointer (some ⟨B, 0, none⟩), .int .i64 t] w fun e w' => e = .returned (.bool (hasT x t)) ∧ w = w' := by
  have c1 := h.blk.at (o := 1) rfl
  clear h
  by_cases h0 : 0 ≤ t
  · have hh : hasT x t = decide (t < (x.pins.length : Int)) := by unfold hasT; simp [h0]
    rw [hh]
    clear hh
    go_enter Try.func23, Try.ntmps23
    go_wp2
    go_ret
    simp
  · have hh : hasT x t = false := by unfold hasT; simp [h0]
    rw [hh]
    clear hh
    go_enter Try.func23, Try.ntmps23
    go_wp2
    go_ret
    simp
theorem ep_has_nil (t : Int) (w : World) : Calls Try.prog 23 #[.pointer none, .int .i64 t] w fun e w' => e = .returned (.bool false) ∧ w = w' := by
  go_enter Try.func23, Try.ntmps23
  go_wp2
  go_ret
  simp
def isPin (x : Ep) (t : Int) : Bool := hasT x t && (x.pins.getD t.toNat none).isSome
theorem ep_Pinned {w : World} {lo B P : Nat} {v : Nat → Value} {x : Ep} (h : EpIs w lo B P v x) (t : Int) : Calls Try.prog 20 #[.pointer (some ⟨B, 0, none⟩), .int .i64 t] w fun e w' => e = .returned (.bool (isPin x t)) ∧ w = w' := by
  have c1 := h.blk.at (o := 1) rfl
  cases hh : hasT x t with
  | false =>
    have hp : isPin x t = false := by unfold isPin; rw [hh]; rfl
    rw [hp]
    go_enter Try.func20, Try.ntmps20
    go_wp2_with fail
    refine (ep_has h t).mono ?_
    rintro e w' ⟨rfl, rfl⟩
    rw [hh]
    go_wp2
    go_ret
    simp
  | true =>
    have H := Lib.hid (ep_has h t)
    rw [hh] at H
    obtain ⟨i, rfl, hi⟩ : ∃ i : Nat, t = (i : Int) ∧ i < x.pins.length := ⟨t.toNat, by simp [hasT] at hh; omega, by simp [hasT] at hh; omega⟩
    have hp : isPin x (i : Int) = (x.pins[i]).isSome := by unfold isPin; rw [hh]; simp [List.getD, hi]
    rw [hp]
    have c2 := (h.pin (List.getElem?_eq_getElem hi)).1
    clear h hh hp
    go_enter Try.func20, Try.ntmps20
    go_wp2_with fail
    refine H.out.mono ?_
    rintro e w' ⟨rfl, rfl⟩
    go_wp2
    go_ret
    simp
theorem ep_Pinned_nil (t : Int) (w : World) : Calls Try.prog 20 #[.pointer none, .int .i64 t] w fun e w' => e = .returned (.bool false) ∧ w = w' := by
  go_enter Try.func20, Try.ntmps20
  go_wp2_with fail
  refine (ep_has_nil t w).mono ?_
  rintro e w' ⟨rfl, rfl⟩
  go_wp2
  go_ret
  simp
theorem tmod3 (n : Nat) : (n : Int).tmod 3 = ((n % 3 : Nat) : Int) := by rw [Int.tmod_eq_emod_of_nonneg (by omega)]; rfl
theorem ep_with (B n : Nat) (w : World) : Calls Try.prog 24 #[.pointer (some ⟨B, 0, none⟩), .int .i64 (n : Int)] w fun e w' => e = .returned (.pointer (some ⟨B, 2 + n % 3, none⟩)) ∧ w = w' := by
  have h3 := tmod3 n
  have h4 : n % 3 < 3 := Nat.mod_lt _ (by decide)
  go_enter Try.func24, Try.ntmps24
  go_wp2
  go_ret
  simp
theorem ep_Now {w : World} {lo B P : Nat} {v : Nat → Value} {x : Ep} (h : EpIs w lo B P v x) : Calls Try.prog 18 #[.pointer (some ⟨B, 0, none⟩)] w fun e w' => e = .returned (.int .i64 (x.now : Int)) ∧ w = w' := by
  have c0 := h.blk.at (o := 0) rfl
  clear h
  go_enter Try.func18, Try.ntmps18
  go_wp2
  go_ret
  simp
theorem ep_Now_nil (w : World) : Calls Try.prog 18 #[.pointer none] w fun e w' => e = .returned (.int .i64 0) ∧ w = w' := by
  go_enter Try.func18, Try.ntmps18
  go_wp2
  go_ret
  simp
theorem ep_Waiting_nil (w : World) : Calls Try.prog 19 #[.pointer none] w fun e w' => e = .returned (.int .i64 0) ∧ w = w' := by
  go_enter Try.func19, Try.ntmps19
  go_wp2
  go_ret
  simp

end Go.Proofs.Ytkbappdlijmjlaa
