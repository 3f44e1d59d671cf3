/- Layer 10 (package pool, of strings): Take, Give, Get, Stamp, Live. -/
import Derived.Test.YticdfijblcbbbaaPoolT10
namespace Go.Proofs.Yticdfijblcbbbaa
open Go.RowKit

section
variable {w w' : World} {lo B : Nat} {pv fv : Value} {x : Po ByteArray}
theorem PsIs.stAt (h : PsIs w lo B pv fv x) {i g cap n : Nat} {p : Plc ByteArray} (hp : x.M[i]? = some p) (hg : pv = .slice (some ⟨g, 0, none⟩) n cap) : w.cell? ⟨g, i * 3 + 1, none⟩ = some (.int .i64 (p.st : Int)) := by
  obtain ⟨g', cap', e, _, _, k, _⟩ := h.at hp
  rw [hg] at e
  cases e
  exact k
theorem PsNew.refl (n : Nat) : PsNew n B pv fv pv fv := fun _ h => .inl h
theorem PsNew.free {fv' : Value} (n : Nat) (hb : fv'.ownBlock = fv.ownBlock) : PsNew n B pv fv pv fv' := fun k h => .inl (by
  rcases h with h | h | h
  · exact .inl h
  · exact .inr (.inl h)
  · exact .inr (.inr (hb ▸ h)))
set_option maxHeartbeats 1000000 in
theorem ps_Take_free (h : PsIs w lo B pv fv x) {F : List Int} {i : Nat} {p : Plc ByteArray} (hF : x.F = F ++ [(i : Int) + 1]) (hp : x.M[i]? = some p) (hl : F.length ≤ 1000000) (v : ByteArray) :
    Calls Try.prog 20 #[.pointer (some ⟨B, 0, none⟩), Value.string v] w fun e w' => e = .returned (.tuple #[.int .i64 ((i : Int) + 1), .int .i64 (p.st : Int), .int .i64 0]) ∧
    (∃ fv', PsIs w' lo B pv fv' ⟨x.lim, x.M.set i ⟨v, p.st, true⟩, F⟩ ∧ fv'.ownBlock = fv.ownBlock) ∧ Only (PsBlk B pv fv) w w' := by
  have V := Lib.hid (ps_vacant_free h hF hl)
  have hi := (List.getElem?_eq_some_iff.1 hp).1
  have hP := Lib.hid hp
  have hml := h.ml
  have hli := h.lims
  have hi' : ((i : Int) + 1 == 0) = false := by simp; omega
  have ha : ∀ k, pv.ownBlock = some k → PsBlk B pv fv k := fun k hk => .inr (.inl hk)
  have HA := Lib.hid ha
  have hi2 : (i : Int) ≤ 70000 := by omega
  clear h hF hp ha
  go_enter Try.func20, Try.ntmps20
  go_wp2_with fail
  refine V.out.mono ?_
  rintro e w1 ⟨rfl, ⟨fv', h1, hb1⟩, o1⟩
  obtain ⟨g, cap, eg, hlt, k0, k1, k2, kf, kt⟩ := h1.at hP.out
  have T1 := Lib.hid (h1.taken hP.out eg v)
  have A1 := Lib.hid (ps_at h1 hi eg)
  have EG := Lib.hid eg
  have O1 := Lib.hid o1
  have HB := Lib.hid hb1
  have f0 := kf (i * 3)
  have f2 := kf (i * 3 + 2)
  clear h1 hb1 o1 kf kt eg k1
  go_wp2_with fail
  refine A1.out.mono ?_
  rintro e w' ⟨rfl, rfl⟩
  go_upto_region 6 with fail
  generalize ((w1.setCell ⟨g, i * 3, none⟩ (Value.string v)).setCell ⟨g, i * 3 + 2, none⟩ (.bool true)) = w7 at *
  obtain ⟨h7, o7⟩ := T1.out
  have c7 := h7.stAt (i := i) (p := ⟨v, p.st, true⟩) (by simp [hi]) EG.out
  have H7 := Lib.hid h7
  have O7 := Lib.hid ((O1.out.mono (fun _ _ e => (.inl e : PsBlk B pv fv _))).step o7 (fun k _ e => HA.out k (by rw [EG.out, e]; rfl)))
  clear h7 o7 k0 k2 f0 f2
  go_quiet (fail)
  go_wp2
  refine bodyPost_ret (v := .tuple #[.int .i64 ((i : Int) + 1), .int .i64 (p.st : Int), .int .i64 0]) (by simp [results, Try.results20, go_sem]) rfl ⟨rfl, ⟨_, H7.out.drewN _, HB.out⟩, O7.out.drewN _⟩
set_option maxHeartbeats 1000000 in
theorem ps_Take_new (h : PsIs w lo B pv fv x) (hlo : lo ≤ w.heap.size) (hF : x.F = []) (hl : x.M.length < x.lim) (v : ByteArray) :
    Calls Try.prog 20 #[.pointer (some ⟨B, 0, none⟩), Value.string v] w fun e w' => e = .returned (.tuple #[.int .i64 ((x.M.length : Int) + 1), .int .i64 0, .int .i64 0]) ∧
    (∃ pv', PsIs w' lo B pv' fv ⟨x.lim, x.M ++ [⟨v, 0, true⟩], []⟩ ∧ PsNew w.heap.size B pv fv pv' fv) ∧ Only (PsBlk B pv fv) w w' := by
  have V := Lib.hid (ps_vacant_new h hlo hF hl v)
  have hli := h.lims
  have LT := Lib.hid (fun k hk => h.lt (k := k) hk)
  have hp : (x.M ++ [⟨v, 0, false⟩])[x.M.length]? = some (⟨v, 0, false⟩ : Plc ByteArray) := by simp
  have hi : x.M.length < (x.M ++ [(⟨v, 0, false⟩ : Plc ByteArray)]).length := by simp
  have hs : (x.M ++ [(⟨v, 0, false⟩ : Plc ByteArray)]).set x.M.length ⟨v, 0, true⟩ = x.M ++ [⟨v, 0, true⟩] := by simp
  have hp2 : (x.M ++ [⟨v, 0, true⟩])[x.M.length]? = some (⟨v, 0, true⟩ : Plc ByteArray) := by simp
  have P1 := Lib.hid hp
  have P2 := Lib.hid hi
  have P3 := Lib.hid hs
  have P4 := Lib.hid hp2
  clear h hF hp hi hs hp2
  generalize x.M.length = i at *
  have hi' : ((i : Int) + 1 == 0) = false := by simp; omega
  have hi2 : (i : Int) ≤ 70000 := by omega
  go_enter Try.func20, Try.ntmps20
  go_wp2_with fail
  refine V.out.mono ?_
  rintro e w1 ⟨rfl, ⟨pv', h1, n1⟩, o1⟩
  obtain ⟨g, cap, eg, hlt, k0, k1, k2, kf, kt⟩ := h1.at P1.out
  have T1 := Lib.hid (h1.taken P1.out eg v)
  have A1 := Lib.hid (ps_at h1 P2.out eg)
  have EG := Lib.hid eg
  have O1 := Lib.hid (And.intro o1 n1)
  have f0 := kf (i * 3)
  have f2 := kf (i * 3 + 2)
  clear h1 n1 o1 kf kt eg k1
  go_wp2_with fail
  refine A1.out.mono ?_
  rintro e w' ⟨rfl, rfl⟩
  go_upto_region 6 with fail
  generalize ((w1.setCell ⟨g, i * 3, none⟩ (Value.string v)).setCell ⟨g, i * 3 + 2, none⟩ (.bool true)) = w7 at *
  obtain ⟨h7, o7⟩ := T1.out
  rw [P3.out] at h7
  have c7 := h7.stAt (i := i) (p := ⟨v, 0, true⟩) P4.out EG.out
  have H7 := Lib.hid h7
  have O7 := Lib.hid (O1.out.1.step o7 (fun k hk e => by
    rcases O1.out.2 k (.inr (.inl (by rw [EG.out, e]; rfl))) with h | h
    · exact h
    · omega))
  clear h7 o7 k0 k2 f0 f2
  go_quiet (fail)
  go_wp2
  refine bodyPost_ret (v := .tuple #[.int .i64 ((i : Int) + 1), .int .i64 0, .int .i64 0]) (by simp [results, Try.results20, go_sem]) rfl ⟨rfl, ⟨_, H7.out.drewN _, O1.out.2⟩, O7.out.drewN _⟩
theorem ps_Take_full (h : PsIs w lo B pv fv x) (hF : x.F = []) (hl : x.lim ≤ x.M.length) (v : ByteArray) :
    Calls Try.prog 20 #[.pointer (some ⟨B, 0, none⟩), Value.string v] w fun e w' => e = .returned (.tuple #[.int .i64 0, .int .i64 0, .int .i64 8]) ∧ ∃ n, w' = w.drewN n := by
  have V := Lib.hid (ps_vacant_full h hF hl)
  clear h hF hl
  go_enter Try.func20, Try.ntmps20
  go_wp2_with fail
  refine V.out.mono ?_
  rintro e w1 ⟨rfl, n, rfl⟩
  go_wp2
  refine bodyPost_ret (v := .tuple #[.int .i64 0, .int .i64 0, .int .i64 8]) (by simp [results, Try.results20, go_sem]) rfl ⟨rfl, _, rfl⟩
/-- Take, whichever way. -/
theorem ps_Take (h : PsIs w lo B pv fv x) (hlo : lo ≤ w.heap.size) (hl : x.F.length ≤ 1000000) {v : ByteArray} {j : Int} {s : Nat} {y : Po ByteArray} (ht : takeZ x v = some (j, s, y)) :
    Calls Try.prog 20 #[.pointer (some ⟨B, 0, none⟩), Value.string v] w fun e w' => e = .returned (.tuple #[.int .i64 j, .int .i64 (s : Int), .int .i64 0]) ∧
    (∃ pv' fv', PsIs w' lo B pv' fv' y ∧ PsNew w.heap.size B pv fv pv' fv') ∧ Only (PsBlk B pv fv) w w' := by
  rcases free_last h.fok with e | ⟨F, i, p, e, hp⟩
  · by_cases hx : x.lim ≤ x.M.length
    · rw [takeZ_full e hx] at ht; cases ht
    · rw [takeZ_new e hx] at ht
      simp only [Option.some.injEq, Prod.mk.injEq] at ht
      obtain ⟨rfl, rfl, rfl⟩ := ht
      refine (ps_Take_new h hlo e (by omega) v).mono ?_
      rintro e w' ⟨rfl, ⟨pv', h1, h2⟩, h3⟩
      exact ⟨rfl, ⟨_, _, h1, h2⟩, h3⟩
  · rw [takeZ_free e hp] at ht
    simp only [Option.some.injEq, Prod.mk.injEq] at ht
    obtain ⟨rfl, rfl, rfl⟩ := ht
    refine (ps_Take_free h e hp (by rw [e] at hl; simp at hl; omega) v).mono ?_
    rintro e w' ⟨rfl, ⟨fv', h1, h2⟩, h3⟩
    exact ⟨rfl, ⟨_, _, h1, PsNew.free _ h2⟩, h3⟩
theorem takeZ_nonePs {v : ByteArray} (h : FOk x) (ht : takeZ x v = none) : x.F = [] ∧ x.lim ≤ x.M.length := by
  rcases free_last h with e | ⟨F, i, p, e, hp⟩
  · by_cases hx : x.lim ≤ x.M.length
    · exact ⟨e, hx⟩
    · rw [takeZ_new e hx] at ht; cases ht
  · rw [takeZ_free e hp] at ht; cases ht
theorem ps_Live (h : PsIs w lo B pv fv x) (hl : x.F.length ≤ 1000000) : Calls Try.prog 21 #[.pointer (some ⟨B, 0, none⟩)] w fun e w' => e = .returned (.int .i64 ((x.M.length : Int) - (x.F.length : Int))) ∧ ∃ n, w' = w.drewN n := by
  have c1 := h.blk.at (o := 1) rfl
  have c2 := h.blk.at (o := 2) rfl
  obtain ⟨a, c, rfl⟩ := own_form h.row
  obtain ⟨a', c', rfl⟩ := own_form h.fr
  have h1 := h.ml
  have h2 := h.lims
  generalize x.M.length = n at *
  generalize x.F.length = m at *
  have hw : IntKind.i64.wrap ((n : Int) - (m : Int)) = (n : Int) - (m : Int) := IntWalk.i64_in _ (by omega)
  clear h h1 h2
  go_enter Try.func21, Try.ntmps21
  go_wp2
  go_quiet (fail)
  go_wp2
  go_ret
  exact ⟨rfl, _, rfl⟩
end

end Go.Proofs.Yticdfijblcbbbaa
