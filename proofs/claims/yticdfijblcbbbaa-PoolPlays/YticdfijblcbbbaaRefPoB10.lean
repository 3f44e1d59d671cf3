/- Layer 10: the document's pool: New, There, Get, Give. -/
import Derived.Test.YticdfijblcbbbaaRefPo10
namespace Go.Proofs.Yticdfijblcbbbaa
open Go.RowKit

theorem ref_New10 (k : Int) (w : World) : Calls Try.prog 8 #[.int .i64 k] w fun e w' => e = .returned (.pointer (some ⟨w.heap.size, 0, none⟩)) ∧ RpIs w' w.heap.size w.heap.size (fun _ => .slice none 0 0) (.slice none 0 0) ⟨limZ k, [], []⟩ ∧ Below w.heap.size w w' := by
  obtain ⟨m, hm⟩ : ∃ m, limZ k = m := ⟨_, rfl⟩
  rw [hm]
  have hq : rpQ ⟨m, [], []⟩ = fun _ => [] := by funext j; unfold rpQ; split; rfl; split; rfl; split <;> rfl
  have F : RpIs (w.alloc (.cells #[.slice none 0 0, .slice none 0 0, .slice none 0 0, .slice none 0 0, .int .i64 (m : Int)] 45)) w.heap.size w.heap.size (fun _ => .slice none 0 0) (.slice none 0 0) ⟨m, [], []⟩ ∧ Below w.heap.size w (w.alloc (.cells #[.slice none 0 0, .slice none 0 0, .slice none 0 0, .slice none 0 0, .int .i64 (m : Int)] 45)) :=
    ⟨⟨Blk.new (l := rpV (fun _ => .slice none 0 0) (.slice none 0 0) m), by rw [hq]; exact Own3.nil _ _, World.ownsRow_nil _ _ _ _⟩, (Below.refl _ _).alloc (Nat.le_refl _) _⟩
  have F' := Lib.hid F
  clear F hq
  by_cases h0 : k < 0
  · obtain rfl : m = 0 := by unfold limZ at hm; omega
    clear hm
    go_enter Try.func8, Try.ntmps8
    go_wp2
    all_goals
      go_ret
      exact ⟨by first | rfl | simp, F'.out⟩
  · by_cases h2 : k = 0
    · subst h2
      obtain rfl : m = 0 := by unfold limZ at hm; omega
      clear hm
      go_enter Try.func8, Try.ntmps8
      go_wp2
      all_goals
        go_ret
        exact ⟨by first | rfl | simp, F'.out⟩
    by_cases h1 : k ≤ 65536
    · obtain rfl : k = (m : Int) := by unfold limZ at hm; omega
      clear hm
      have h3 : 0 < (m : Int) := by omega
      clear h0 h2
      go_enter Try.func8, Try.ntmps8
      go_wp2
      all_goals
        go_ret
        exact ⟨by first | rfl | simp, F'.out⟩
    · obtain rfl : m = 65536 := by unfold limZ at hm; omega
      clear hm
      go_enter Try.func8, Try.ntmps8
      go_wp2
      all_goals
        go_ret
        exact ⟨by first | rfl | simp, F'.out⟩
section
variable {w w' : World} {lo X : Nat} {v : Nat → Value} {tv : Value} {x : Po Int}
/-- The four rows' places in the box. -/
theorem RpR.box {q : Nat → List Int} {T : List Bool} {lim : Nat} (h : RpR w lo X v tv q T lim) : w.cell? ⟨X, 0, none⟩ = some (v 0) ∧ w.cell? ⟨X, 1, none⟩ = some (v 1) ∧ w.cell? ⟨X, 2, none⟩ = some tv ∧ w.cell? ⟨X, 3, none⟩ = some (v 2) ∧ w.cell? ⟨X, 4, none⟩ = some (.int .i64 (lim : Int)) :=
  ⟨h.blk.at (o := 0) rfl, h.blk.at (o := 1) rfl, h.blk.at (o := 2) rfl, h.blk.at (o := 3) rfl, h.blk.at (o := 4) rfl⟩
theorem ref_There10 (h : RpIs w lo X v tv x) (id : Int) : Calls Try.prog 15 #[.pointer (some ⟨X, 0, none⟩), .int .i64 id] w fun e w' => e = .returned (.bool (hasP x.M.length id)) ∧ w = w' := by
  obtain ⟨c0, _⟩ := h.box
  obtain ⟨a, c, e⟩ := own_form (h.own.own 0 (by decide))
  rw [e, show (rpQ x 0).length = x.M.length by simp [rpQ]] at c0
  generalize x.M.length = n at *
  clear h e
  by_cases h0 : 1 ≤ id
  · have hh : hasP n id = decide (id ≤ (n : Int)) := by unfold hasP; simp [h0]
    rw [hh]
    clear hh
    go_enter Try.func15, Try.ntmps15
    go_wp2
    go_ret
    simp
  · have hh : hasP n id = false := by unfold hasP; simp [h0]
    rw [hh]
    clear hh
    go_enter Try.func15, Try.ntmps15
    go_wp2
    go_ret
    simp
/-- One place, in its three rows. -/
theorem rp_three (h : RpIs w lo X v tv x) {i : Nat} {p : Plc Int} (hp : x.M[i]? = some p) : ∃ g0 c0 g1 c1 g2 c2, v 0 = .slice (some ⟨g0, 0, none⟩) x.M.length c0 ∧ v 1 = .slice (some ⟨g1, 0, none⟩) x.M.length c1 ∧ tv = .slice (some ⟨g2, 0, none⟩) x.M.length c2 ∧
    w.cell? ⟨g0, i, none⟩ = some (numV p.x) ∧ w.cell? ⟨g1, i, none⟩ = some (numV (p.st : Int)) ∧ w.cell? ⟨g2, i, none⟩ = some (.bool p.tk) := by
  obtain ⟨hi, he⟩ := List.getElem?_eq_some_iff.1 hp
  have l0 : (rpQ x 0).length = x.M.length := by simp [rpQ]
  have l1 : (rpQ x 1).length = x.M.length := by simp [rpQ]
  have l2 : (x.M.map (·.tk)).length = x.M.length := by simp
  obtain ⟨g0, c0, e0, k0, _⟩ := h.at (j := 0) (i := i) (by decide) (by omega)
  obtain ⟨g1, c1, e1, k1, _⟩ := h.at (j := 1) (i := i) (by decide) (by omega)
  obtain ⟨g2, c2, e2, k2, _⟩ := h.atT (i := i) (by omega)
  rw [l0] at e0
  rw [l1] at e1
  rw [l2] at e2
  refine ⟨g0, c0, g1, c1, g2, c2, e0, e1, e2, ?_, ?_, ?_⟩
  · rw [k0]; simp [rpQ, he]
  · rw [k1]; simp [rpQ, he]
  · rw [k2]; simp [he]
theorem ref_Get10 (h : RpIs w lo X v tv x) (id st : Int) (hM : x.M.length ≤ 1000000) : Calls Try.prog 14 #[.pointer (some ⟨X, 0, none⟩), .int .i64 id, .int .i64 st] w fun e w' =>
    e = .returned (.tuple #[(getZ x id st).elim numV (fun _ => .int .i64 0), .int .i64 ((getZ x id st).elim (fun _ => 0) (fun k => k))]) ∧ w = w' := by
  have A := Lib.hid (ref_There10 h id)
  cases hh : hasP x.M.length id with
  | false =>
    rw [getZ_no hh]
    rw [hh] at A
    clear h hh
    go_enter Try.func14, Try.ntmps14
    go_wp2_with fail
    refine A.out.mono ?_
    rintro e w' ⟨rfl, rfl⟩
    go_wp2
    go_ret2
    exact ⟨rfl, rfl⟩
  | true =>
    rw [hh] at A
    obtain ⟨i, rfl, hi⟩ := hasP_yes hh
    have hp := List.getElem?_eq_getElem hi
    rw [getZ_at hp]
    obtain ⟨d0, d1, d2, _⟩ := h.box
    obtain ⟨g0, c0, g1, c1, g2, c2, e0, e1, e2, k0, k1, k2⟩ := rp_three h hp
    rw [e0] at d0
    rw [e1] at d1
    rw [e2] at d2
    generalize x.M[i] = p at *
    generalize x.M.length = n at *
    obtain ⟨px, ps, pt⟩ := p
    simp only at k0 k1 k2 ⊢
    clear h hh e0 e1 e2 hp
    cases pt with
    | false =>
      simp only [Bool.false_and, Bool.false_eq_true, if_false] at k0 ⊢
      go_enter Try.func14, Try.ntmps14
      go_wp2_with fail
      refine A.out.mono ?_
      rintro e w' ⟨rfl, rfl⟩
      go_wp2
      go_ret2
      exact ⟨rfl, rfl⟩
    | true =>
      by_cases hs : (ps : Int) = st
      · have hs' : ((ps : Int) != st) = false := by simpa using hs
        simp only [hs, decide_true, Bool.true_and, if_true] at k0 ⊢
        clear hs
        go_enter Try.func14, Try.ntmps14
        go_wp2_with fail
        refine A.out.mono ?_
        rintro e w' ⟨rfl, rfl⟩
        go_wp2
        go_ret2
        exact ⟨rfl, rfl⟩
      · have hs' : ((ps : Int) != st) = true := by simpa using hs
        simp only [hs, decide_false, Bool.and_false, Bool.false_eq_true, if_false] at k0 ⊢
        clear hs
        go_enter Try.func14, Try.ntmps14
        go_wp2_with fail
        refine A.out.mono ?_
        rintro e w' ⟨rfl, rfl⟩
        go_wp2
        go_ret2
        exact ⟨rfl, rfl⟩
theorem ref_Give_no10 (h : RpIs w lo X v tv x) {id : Int} (hg : giveZ x id = none) (hM : x.M.length ≤ 1000000) : Calls Try.prog 12 #[.pointer (some ⟨X, 0, none⟩), .int .i64 id] w fun e w' => e = .returned (.int .i64 4) ∧ w = w' := by
  have A := Lib.hid (ref_There10 h id)
  cases hh : hasP x.M.length id with
  | false =>
    rw [hh] at A
    clear h hh hg
    go_enter Try.func12, Try.ntmps12
    go_wp2_with fail
    refine A.out.mono ?_
    rintro e w' ⟨rfl, rfl⟩
    go_wp2
    go_ret
    simp
  | true =>
    rw [hh] at A
    obtain ⟨i, rfl, hi⟩ := hasP_yes hh
    have hp := List.getElem?_eq_getElem hi
    rw [giveZ_at hp] at hg
    obtain ⟨d0, d1, d2, _⟩ := h.box
    obtain ⟨g0, c0, g1, c1, g2, c2, e0, e1, e2, k0, k1, k2⟩ := rp_three h hp
    rw [e2] at d2
    generalize x.M[i] = p at *
    generalize x.M.length = n at *
    obtain ⟨px, ps, pt⟩ := p
    simp only at k0 k1 k2 hg
    clear h hh e0 e1 e2 hp d0 d1
    cases pt with
    | true => simp at hg
    | false =>
      clear hg k0 k1
      go_enter Try.func12, Try.ntmps12
      go_wp2_with fail
      refine A.out.mono ?_
      rintro e w' ⟨rfl, rfl⟩
      go_wp2
      go_ret
      simp
end

end Go.Proofs.Yticdfijblcbbbaa
