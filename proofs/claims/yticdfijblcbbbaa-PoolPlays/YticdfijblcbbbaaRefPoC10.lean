/- Layer 10: the document's pool: Give, Take. -/
import Derived.Test.YticdfijblcbbbaaRefPoB10
import Derived.Deep.CutRange
namespace Go.Proofs.Yticdfijblcbbbaa
open Go.RowKit

theorem slice_addr {g g' n n' c c' : Nat} (h : Value.slice (some ⟨g, 0, none⟩) n c = .slice (some ⟨g', 0, none⟩) n' c') : g' = g := by
  injection h with h
  injection h with h
  injection h with h
  exact h.symm
section
variable {w w' : World} {lo X : Nat} {v : Nat → Value} {tv : Value} {x : Po Int}
set_option maxHeartbeats 1000000 in
theorem ref_Give10 (h : RpIs w lo X v tv x) (hlo : lo ≤ w.heap.size) {id : Int} {y : Po Int} (hg : giveZ x id = some y) (hM : x.M.length ≤ 1000000) (hl : x.F.length ≤ 1000000) (hst : ∀ p ∈ x.M, p.st ≤ 1000000) :
    Calls Try.prog 12 #[.pointer (some ⟨X, 0, none⟩), .int .i64 id] w fun e w' => e = .returned (.int .i64 0) ∧ (∃ v' tv', RpIs w' lo X v' tv' y ∧ RpNew w.heap.size X v tv v' tv') ∧ Only (RpBlk X v tv) w w' := by
  obtain ⟨i0, hi0, hz0, hz1, hz2⟩ := info_at infoInt
  have A := Lib.hid (ref_There10 h id)
  cases hh : hasP x.M.length id with
  | false => rw [giveZ_no hh] at hg; cases hg
  | true =>
    rw [hh] at A
    obtain ⟨i, rfl, hi⟩ := hasP_yes hh
    have hp := List.getElem?_eq_getElem hi
    rw [giveZ_at hp] at hg
    have hps := hst _ (List.getElem_mem hi)
    obtain ⟨d0, d1, d2, d3, d4⟩ := h.box
    obtain ⟨g0, c0, g1, c1, g2, c2, e0, e1, e2, k0, k1, k2⟩ := rp_three h hp
    have l1 : (rpQ x 1).length = x.M.length := by simp [rpQ]
    have l2 : (x.M.map (·.tk)).length = x.M.length := by simp
    -- what is written: first that it is free
    obtain ⟨g2', c2', e2', kk2, f2, s2⟩ := h.atT (i := i) (by omega)
    obtain rfl : g2' = g2 := slice_addr (e2.symm.trans e2')
    obtain ⟨h1, o1⟩ := s2 false
    have hp1 : (rpQ x 1)[i]? = some ((x.M[i].st : Nat) : Int) := by simp [rpQ, hi]
    obtain ⟨g1', c1', e1', kk1, f1, s1⟩ := h1.at (j := 1) (i := i) (by decide) (by omega)
    obtain rfl : g1' = g1 := slice_addr (e1.symm.trans e1')
    obtain ⟨h2, o2⟩ := s1 (((x.M[i].st : Nat) : Int) + 1)
    have HP := Lib.hid hp
    have HG := Lib.hid hg
    rw [e1] at d1
    rw [e2] at d2
    obtain ⟨d10, d11, d12, d13, _⟩ := h1.box
    rw [e1] at d11
    have kk : (w.setCell ⟨g2', i, none⟩ (.bool false)).cell? ⟨g1', i, none⟩ = some (numV ((x.M[i].st : Nat) : Int)) := by rw [kk1]; simp [rpQ]
    generalize x.M[i] = p at *
    obtain ⟨px, ps, pt⟩ := p
    simp only at k0 k1 k2 hg kk h2 o2 hps
    cases pt with
    | false => simp at hg
    | true =>
      have KN := Lib.hid (show _ ∧ _ from ⟨h1, o1⟩)
      have K2 := Lib.hid (show _ ∧ _ from ⟨h2, o2⟩)
      have HLO := Lib.hid hlo
      have HE := Lib.hid (And.intro e1 (And.intro e2 (And.intro l1 l2)))
      have hi2 : (i : Int) ≤ 1000000 := by omega
      clear h hh hg hp hlo h1 o1 h2 o2 s1 s2 e0 e1 e2 e1' e2' k0 k1 hp1 hst d0 d4 kk1 kk2 l1 l2
      go_enter Try.func12, Try.ntmps12
      go_wp2_with fail
      refine A.out.mono ?_
      rintro e w' ⟨rfl, rfl⟩
      go_upto_region 4 with fail
      generalize w.setCell ⟨g2', i, none⟩ (.bool false) = w1 at *
      clear d1 d2 d3 k2 f2
      go_upto_region 5 with fail
      generalize w1.setCell ⟨g1', i, none⟩ (.int .i64 ((ps : Int) + 1)) = w2 at *
      clear d10 d11 d12 d13 kk f1
      obtain ⟨h2, o2⟩ := K2.out
      obtain ⟨_, _, _, d23, _⟩ := h2.box
      have hr := h2.own.own 2 (by decide)
      have hF : upd (rpQ x) 1 ((rpQ x 1).set i ((ps : Int) + 1)) 2 = x.F := by simp [upd, rpQ]
      rw [hF] at hr
      obtain ⟨oa, oc, oe⟩ := own_form hr
      rw [oe] at d23 hr
      have OE := Lib.hid oe
      have HF := Lib.hid hF
      have H2 := Lib.hid h2
      have hlo2 : lo ≤ w2.heap.size := by have := KN.out.2.size; have := o2.size; have := HLO.out; omega
      clear h2 o2 oe hF
      go_wp2_with (at_builtin; (refine wpList_append_lies _ rfl _ _ 42 rfl lo 3 i0 (.int .i64 0) 1 8 Try.underlying42 hi0 hz0 hz1 hz2 rfl (by decide) _ _ _ rfl (hr.alloc _) ⟨w2.heap.size, 0, none⟩ 1 1 [.int .i64 ((i : Int) + 1)] rfl rfl (cell_one_new _ _ _) (by simp [Value.oneCell']) (by decide) (by simp only [maxLen]; first | omega | (simp; omega)) (by first | omega | (simp; omega) | simp) (by first | omega | (simp; omega) | simp) (w2.heap.size + 1) (by simp) ?_); intro g' cap' w9 hown' hgrow hlie hlt'; rw [← OE.out] at hgrow hlie; obtain ⟨⟨k9, f9⟩, hend⟩ := H2.out.grown (j := 2) (y := (i : Int) + 1) (by decide) hgrow hlie (by rw [HF.out]; exact hown'); rw [OE.out] at k9; rw [HF.out] at hend; replace k9 : w9.cell? ⟨X, 3, none⟩ = _ := k9; replace f9 : w9.frozen? ⟨X, 3, none⟩ = _ := f9; have HD := Lib.hid hend; clear hown' hgrow hlie hlt' hend)
      go_ret
      obtain ⟨⟨h5, n5⟩, o5⟩ := HD.out
      have hs1 := KN.out.2.size
      have hs2 := K2.out.2.size
      refine ⟨by simp, ⟨_, _, ?_, fun k hk => (n5 k hk).imp id (fun e => by omega)⟩, (KN.out.2.trans K2.out.2).trans o5⟩
      have hq : _ = rpQ ⟨x.lim, x.M.set i ⟨px, ps + 1, false⟩, x.F ++ [(i : Int) + 1]⟩ := rpQ_give HP.out ((i : Int) + 1)
      have hy := HG.out
      simp only [if_true, Option.some.injEq] at hy
      subst hy
      show RpR _ _ _ _ _ (rpQ ⟨x.lim, x.M.set i ⟨px, ps + 1, false⟩, x.F ++ [(i : Int) + 1]⟩) ((x.M.set i ⟨px, ps + 1, false⟩).map (·.tk)) x.lim
      rw [← hq, List.map_set]
      exact h5
end

end Go.Proofs.Yticdfijblcbbbaa
