/- Layer 10 (package pool, of strings): Give, Get. -/
import Derived.Test.YticdfijblcbbbaaPoolU10
namespace Go.Proofs.Yticdfijblcbbbaa
open Go.RowKit

section
variable {w w' : World} {lo B : Nat} {pv fv : Value} {x : Po ByteArray}
/-- Behind an append to the free ones. -/
theorem PsIs.grownF {w5 : World} {ob : Obj} {g' cap' : Nat} {j : Int} (h : PsIs w lo B pv fv x) (hj : 1 ≤ j ∧ j ≤ (x.M.length : Int)) (hgrow : (w.alloc ob).grownBy w5 fv.ownBlock) (hlie : fv.ownBlock = some g' ∨ g' = w.heap.size + 1)
    (hown : w5.ownsRow lo 3 1 (.slice (some ⟨g', 0, none⟩) (x.F.length + 1) cap') (x.F.length + 1) (x.F.map numV ++ [numV j])) :
    (w5.cell? ⟨B, 2, none⟩ = some fv ∧ w5.frozen? ⟨B, 2, none⟩ = false) ∧ (∃ fv', PsIs (w5.setCell ⟨B, 2, none⟩ (.slice (some ⟨g', 0, none⟩) (x.F.length + 1) cap')) lo B pv fv' ⟨x.lim, x.M, x.F ++ [j]⟩ ∧ PsNew w.heap.size B pv fv pv fv') ∧
    Only (PsBlk B pv fv) w (w5.setCell ⟨B, 2, none⟩ (.slice (some ⟨g', 0, none⟩) (x.F.length + 1) cap')) := by
  have ha : Only (fun _ => False) w (w.alloc ob) := (Only.refl _ _).alloc ob
  have h1 := h.only ha (fun _ _ => id)
  have ho := grown_only hgrow
  have b5 := h1.blk.only ho (fun e => h1.apartF e rfl)
  have r5 := own_only h1.row ho (fun k hk e => h1.apartPF hk e)
  have o6 := only_at w5 B 2 (.slice (some ⟨g', 0, none⟩) (x.F.length + 1) cap')
  refine ⟨⟨b5.at (o := 2) rfl, b5.frozen _⟩, ⟨_, ⟨b5.set 2 _, ?_, ?_, fun i hi => ?_, h.lims, h.ml⟩, ?_⟩, ?_⟩
  · exact own_only r5 o6 (fun k hk e => h1.apartP hk e)
  · have := own_only hown o6 (fun k hk e => blk_apart b5 hown hk (by decide) e.symm)
    simpa using this
  · simp only [List.mem_append, List.mem_singleton] at hi
    rcases hi with hi | rfl
    · exact h.fok i hi
    · exact hj
  · rintro k (rfl | hk | hk)
    · exact .inl (.inl rfl)
    · exact .inl (.inr (.inl hk))
    · simp only [Value.ownBlock, Option.some.injEq] at hk
      subst hk
      rcases hlie with e | e
      · exact .inl (.inr (.inr e))
      · exact .inr (by omega)
  · exact (((Only.refl (PsBlk B pv fv) w).alloc ob).step ho (fun i hi e => .inr (.inr e))).step o6 (fun i hi e => .inl e)
theorem ps_Get (h : PsIs w lo B pv fv x) (id st : Int) : Calls Try.prog 23 #[.pointer (some ⟨B, 0, none⟩), .int .i64 id, .int .i64 st] w fun e w' =>
    e = .returned (.tuple #[(getZ x id st).elim Value.string (fun _ => (.string ByteArray.empty)), .int .i64 ((getZ x id st).elim (fun _ => 0) (fun k => k))]) ∧ w = w' := by
  cases hh : hasP x.M.length id with
  | false =>
    have A := Lib.hid (ps_at_no h hh)
    rw [getZ_no hh]
    clear h hh
    go_enter Try.func23, Try.ntmps23
    go_wp2_with fail
    refine A.out.mono ?_
    rintro e w' ⟨rfl, rfl⟩
    go_wp2
    go_ret2
    exact ⟨rfl, rfl⟩
  | true =>
    obtain ⟨i, rfl, hi⟩ := hasP_yes hh
    have hp := List.getElem?_eq_getElem hi
    rw [getZ_at hp]
    obtain ⟨g, cap, eg, hlt, k0, k1, k2, kf, kt⟩ := h.at hp
    have A := Lib.hid (ps_at h hi eg)
    generalize x.M[i] = p at *
    obtain ⟨px, ps, pt⟩ := p
    simp only at k0 k1 k2 ⊢
    clear h hh kf kt eg hp
    cases pt with
    | false =>
      simp only [Bool.false_and, Bool.false_eq_true, if_false, cond_false] at k0 ⊢
      go_enter Try.func23, Try.ntmps23
      go_wp2_with fail
      refine A.out.mono ?_
      rintro e w' ⟨rfl, rfl⟩
      go_wp2
      go_ret2
      exact ⟨rfl, rfl⟩
    | true =>
      by_cases hs : (ps : Int) = st
      · have hs' : ((ps : Int) != st) = false := by simpa using hs
        simp only [hs, decide_true, Bool.true_and, if_true, cond_true] at k0 ⊢
        clear hs
        go_enter Try.func23, Try.ntmps23
        go_wp2_with fail
        refine A.out.mono ?_
        rintro e w' ⟨rfl, rfl⟩
        go_wp2
        go_ret2
        exact ⟨rfl, rfl⟩
      · have hs' : ((ps : Int) != st) = true := by simpa using hs
        simp only [hs, decide_false, Bool.and_false, Bool.false_eq_true, if_false, cond_true] at k0 ⊢
        clear hs
        go_enter Try.func23, Try.ntmps23
        go_wp2_with fail
        refine A.out.mono ?_
        rintro e w' ⟨rfl, rfl⟩
        go_wp2
        go_ret2
        exact ⟨rfl, rfl⟩
theorem ps_Give_no (h : PsIs w lo B pv fv x) {id : Int} (hg : giveZ x id = none) : Calls Try.prog 22 #[.pointer (some ⟨B, 0, none⟩), .int .i64 id] w fun e w' => e = .returned (.int .i64 4) ∧ w = w' := by
  cases hh : hasP x.M.length id with
  | false =>
    have A := Lib.hid (ps_at_no h hh)
    clear h hh hg
    go_enter Try.func22, Try.ntmps22
    go_wp2_with fail
    refine A.out.mono ?_
    rintro e w' ⟨rfl, rfl⟩
    go_wp2
    go_ret
    simp
  | true =>
    obtain ⟨i, rfl, hi⟩ := hasP_yes hh
    have hp := List.getElem?_eq_getElem hi
    rw [giveZ_at hp] at hg
    obtain ⟨g, cap, eg, hlt, k0, k1, k2, kf, kt⟩ := h.at hp
    have A := Lib.hid (ps_at h hi eg)
    generalize x.M[i] = p at *
    obtain ⟨px, ps, pt⟩ := p
    simp only at k0 k1 k2 hg
    clear h hh kf kt eg hp
    cases pt with
    | true => simp at hg
    | false =>
      clear hg k0 k1
      go_enter Try.func22, Try.ntmps22
      go_wp2_with fail
      refine A.out.mono ?_
      rintro e w' ⟨rfl, rfl⟩
      go_wp2
      go_ret
      simp
set_option maxHeartbeats 1000000 in
theorem ps_Give (h : PsIs w lo B pv fv x) (hlo : lo ≤ w.heap.size) {id : Int} {y : Po ByteArray} (hg : giveZ x id = some y) (hl : x.F.length ≤ 1000000) (hst : ∀ p ∈ x.M, p.st ≤ 1000000) : Calls Try.prog 22 #[.pointer (some ⟨B, 0, none⟩), .int .i64 id] w fun e w' => e = .returned (.int .i64 0) ∧
    (∃ fv', PsIs w' lo B pv fv' y ∧ PsNew w.heap.size B pv fv pv fv') ∧ Only (PsBlk B pv fv) w w' := by
  obtain ⟨i0, hi0, hz0, hz1, hz2⟩ := info_at infoInt
  cases hh : hasP x.M.length id with
  | false => rw [giveZ_no hh] at hg; cases hg
  | true =>
    obtain ⟨i, rfl, hi⟩ := hasP_yes hh
    have hp := List.getElem?_eq_getElem hi
    rw [giveZ_at hp] at hg
    obtain ⟨g, cap, eg, hlt, k0, k1, k2, kf, kt⟩ := h.at hp
    have A := Lib.hid (ps_at h hi eg)
    have hps := hst _ (List.getElem_mem hi)
    have hlen := And.intro h.ml h.lims
    generalize x.M[i] = p at *
    obtain ⟨px, ps, pt⟩ := p
    simp only at k0 k1 k2 hg hps
    cases pt with
    | false => simp at hg
    | true =>
      simp only [if_true, Option.some.injEq] at hg
      have T1 := Lib.hid (h.given hp eg)
      have HA := Lib.hid (show PsBlk B pv fv g from .inr (.inl (by rw [eg]; rfl)))
      have hlw := h.blk.lt
      have HLT := Lib.hid (fun k hk => h.lt (k := k) hk)
      have KT := Lib.hid kt
      have hi2 : (i : Int) ≤ 70000 := by omega
      have hij : 1 ≤ (i : Int) + 1 ∧ (i : Int) + 1 ≤ (x.M.length : Int) := by omega
      have HIJ := Lib.hid hij
      have HG := Lib.hid hg
      have heq : (({ lim := x.lim, M := x.M.set i ⟨px, ps + 1, false⟩, F := x.F } : Po ByteArray)).M.length = x.M.length := by simp
      have HEQ := Lib.hid heq
      have HLO := Lib.hid hlo
      have HL := Lib.hid hl
      clear h hh kf kt eg hp k0 hg hst hij heq hlo hl
      go_enter Try.func22, Try.ntmps22
      go_wp2_with fail
      refine A.out.mono ?_
      rintro e w' ⟨rfl, rfl⟩
      go_upto_region 5 with ((with_reducible show wpList _ _ _ (⟨none, .store 69 _ _, _, _, _, _⟩ :: _) _ _); refine wpList_store_mid rfl 69 _ _ rfl g (i * 3) #[(.string ByteArray.empty), .int .i64 ((ps : Int) + 1), .bool false] rfl rfl KT.out (by kernel_rfl) (by simp [Value.oneCell']) ?_)
      obtain ⟨h7, o7⟩ := T1.out
      generalize w.setCells g (i * 3) [(.string ByteArray.empty), .int .i64 ((ps : Int) + 1), .bool false] = w7 at *
      have hs7 := o7.size
      have H7 := Lib.hid h7
      have O7 := Lib.hid o7
      have c2 := h7.blk.at (o := 2) rfl
      have hr := h7.fr
      simp only at c2 hr
      obtain ⟨oa, oc, oe⟩ := own_form hr
      have OE := Lib.hid oe
      rw [oe] at c2 hr
      have hl := HL.out
      have hlo := HLO.out
      have hls : lo ≤ w7.heap.size := by omega
      clear h7 o7 k1 k2 oe hlo
      go_wp2_with (at_builtin; (refine wpList_append_lies _ rfl _ _ 42 rfl lo 3 i0 (.int .i64 0) 1 8 Try.underlying42 hi0 hz0 hz1 hz2 rfl (by decide) _ _ _ rfl (hr.alloc _) ⟨w7.heap.size, 0, none⟩ 1 1 [.int .i64 ((i : Int) + 1)] rfl rfl (cell_one_new _ _ _) (by simp [Value.oneCell']) (by decide) (by simp only [maxLen]; first | omega | (simp; omega)) (by first | omega | (simp; omega) | simp) (by first | omega | (simp; omega) | simp) (w7.heap.size + 1) (by simp) ?_); intro g' cap' w9 hown' hgrow hlie hlt'; rw [← OE.out] at hgrow hlie; obtain ⟨⟨k9, f9⟩, hend⟩ := H7.out.grownF (j := (i : Int) + 1) (HEQ.out.symm ▸ HIJ.out) hgrow hlie hown'; rw [OE.out] at k9; have HE := Lib.hid hend; clear hown' hgrow hlie hlt' hend)
      go_ret
      obtain ⟨⟨fv', h5, n5⟩, o5⟩ := HE.out
      refine ⟨by simp, ⟨fv', HG.out ▸ h5, fun k hk => (n5 k hk).imp id (fun e => by omega)⟩, (O7.out.mono (fun k _ e => e ▸ HA.out)).trans o5⟩
end

end Go.Proofs.Yticdfijblcbbbaa
