/- EpochSafe: its function tell. -/
import Derived.Test.YtkbappdlijmjlaaSafeM9
namespace Go.Proofs.Ytkbappdlijmjlaa
open Go.RowKit

theorem tellTo_cons (T : List Bool) (a : Int) (A : List Int) : tellTo T (a :: A) = tellTo (T.set a.toNat true) A := rfl
theorem own_nums9 {w : World} {lo : Nat} {v : Value} {L : List Int} (h : w.ownsRow lo 3 1 v L.length (L.map numV)) : NumsIn w v L := SliceK.of_own h
set_option maxHeartbeats 2000000 in
theorem safe_tell {w : World} {N Na Gw Gt Rt : Nat} {wv av : Value} {H : List (List Bool)} {T : List Bool} {A : List Int} (h : WhoIs w N Gw Gt Rt wv H T) (hA : w.ownsRow Na 3 1 av A.length (A.map numV)) (hok : tellOk H T A) (hl : A.length ≤ 1000000) (hHl : H.length ≤ 300) :
    Calls Try.prog 22 #[av, .pointer (some ⟨Gw, 0, none⟩), .pointer (some ⟨Gt, 0, none⟩)] w fun e w' => e = .returned (.bool true) ∧ WhoIs w' N Gw Gt Rt wv H (tellTo T A) ∧ Only (· = Rt) w w' := by
  obtain ⟨aa, ac, ea⟩ := own_form hA
  have HA := Lib.hid hA
  have HW := Lib.hid h
  have HO := Lib.hid hok
  clear h hA hok
  subst ea
  go_enter Try.func22, Try.ntmps22
  go_wp2
  go_loopw [5] (fun i wr => ∃ (k : Nat) (T' : List Bool), k ≤ A.length ∧ i = .int .i64 k ∧ Hid (WhoIs wr N Gw Gt Rt wv H T') ∧ Hid (tellOk H T' (A.drop k)) ∧ Hid (tellTo T' (A.drop k) = tellTo T A) ∧ Hid (Only (· = Rt) w wr)) (fun i _ => A.length - (intOf i).toNat)
  case atStart => exact ⟨0, T, Nat.zero_le _, rfl, HW, HO, Lib.hid rfl, Lib.hid (Only.refl _ _)⟩
  case round =>
    obtain ⟨k, T', hk, rfl, W', HO', HT, Q⟩ := hrel
    by_cases hlt : k < A.length
    · have hd : A.drop k = A[k] :: A.drop (k + 1) := List.drop_eq_getElem_cons hlt
      have hok := HO'.out
      have htt := HT.out
      rw [hd] at hok htt
      rw [tellTo_cons] at htt
      obtain ⟨⟨m, g, em, hg, hT, hf⟩, hok⟩ := hok
      have hA' := own_nums9 (own_only HA.out Q.out (fun g' hg' e => blk_apart HW.out.tr HA.out hg' (by decide) e.symm))
      obtain ⟨aa', ac', ea', hc⟩ := hA'.form
      cases ea'
      obtain ⟨ab, aoff, rfl, hab, hcell⟩ := hc k hlt
      rw [getD_at hlt, em] at hcell
      rw [em] at hok htt
      rw [Int.toNat_natCast] at hok htt
      have hm := (List.getElem?_eq_some_iff.1 hg).1
      have hg8 : 0 < g.length := by rw [W'.out.h8 g (List.mem_of_getElem? hg)]; decide
      obtain ⟨Rw, cap, ew, hz1, hz2⟩ := W'.out.cell hg (List.getElem?_eq_getElem hg8)
      clear hz1 hz2 hg8
      have c1 := W'.out.wb.at (o := 0) rfl
      have c2 := W'.out.tb.at (o := 0) rfl
      have c3 := W'.out.told hT
      have hm300 : m < 300 := by omega
      have d1 : decide ((m : Int) < 0) = false := by simp
      have d2 : decide (H.length ≤ m) = false := by simp; omega
      obtain ⟨h6, o6⟩ := W'.out.tell m
      have HH := Lib.hid hok
      have HTT := Lib.hid htt
      have HG := Lib.hid (And.intro hg hf)
      have EW := Lib.hid ew
      rw [ew] at c1
      clear hok htt hg hf hT hA' hd ew hc
      have H6 := Lib.hid h6
      have O6 := Lib.hid o6
      have f3 := W'.out.tr.frozen m
      clear h6 o6
      go_wp2
      go_quiet (fail)
      go_wp2_with fail
      go_region
      go_wp2_with fail
      obtain ⟨wE, eE⟩ : ∃ wE, (wr.drewN (nq + 1)).setCell ⟨Rt, m, none⟩ (.bool true) = wE := ⟨_, rfl⟩
      have WE : Hid (WhoIs wE N Gw Gt Rt wv H (T'.set m true)) := by
        rw [← eE]
        exact Lib.hid (H6.out.below (below_draws (Below.refl _ _) (nq + 1)))
      have OE : Hid (Only (· = Rt) w wE) := by
        rw [← eE]
        exact Lib.hid (Q.out.trans (O6.out.drewN (nq + 1)))
      have hA' := own_nums9 (own_only HA.out OE.out (fun g' hg' e => blk_apart HW.out.tr HA.out hg' (by decide) e.symm))
      obtain ⟨aa', ac', ea', hc⟩ := hA'.form
      cases ea'
      obtain ⟨ab', aoff', e', hab', hcell'⟩ := hc k hlt
      cases e'
      rw [getD_at hlt, em] at hcell'
      rw [eE]
      have c1' := WE.out.wb.at (o := 0) rfl
      rw [EW.out] at c1'
      have EE := Lib.hid eE
      clear c1 c2 c3 f3 hcell hab hA' hc eE em
      go_loopw [6] (fun i wr => ∃ (t n : Nat), t ≤ 8 ∧ i = .int .i64 t ∧ wr = wE.drewN n) (fun i _ => 8 - (intOf i).toNat)
      case atStart => exact ⟨0, 0, by omega, rfl, rfl⟩
      case round =>
        obtain ⟨t, n, ht, rfl, rfl⟩ := hrel
        by_cases htl : t < 8
        · have hgt : t < g.length := by rw [WE.out.h8 g (List.mem_of_getElem? HG.out.1)]; exact htl
          obtain ⟨Rw', cap', ew', c4, _⟩ := WE.out.cell HG.out.1 (List.getElem?_eq_getElem hgt)
          rw [EW.out] at ew'
          cases ew'
          rw [HG.out.2 _ (List.getElem_mem hgt)] at c4
          clear hgt
          go_wp2
          go_quiet (fail)
          go_wp2
          go_roundw
          case rel => exact ⟨t + 1, _, by omega, by go_num, rfl⟩
          case measure => simp [intOf]; omega
        · obtain rfl : t = 8 := by omega
          go_wp2
          go_roundw
          case rel => exact ⟨k + 1, _, by omega, by go_num, Lib.hid (WE.out.below (below_draws (Below.refl _ _) n)), HH, HTT, Lib.hid (OE.out.drewN n)⟩
          case measure => simp [intOf]; omega
    · obtain rfl : k = A.length := by omega
      have e := HT.out
      rw [List.drop_length] at e
      have E := Lib.hid e
      clear e
      go_wp2
      go_ret
      exact ⟨rfl, by rw [← E.out]; exact W'.out, Q.out⟩

end Go.Proofs.Ytkbappdlijmjlaa
