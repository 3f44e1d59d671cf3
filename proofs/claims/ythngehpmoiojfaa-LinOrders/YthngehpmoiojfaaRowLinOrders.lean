/- Proved: for every list of calls and every list of numbers, LinOrders returns true and leaves both as they were. No conditions. (Its walk, and its row.) -/
import Derived.Test.YthngehpmoiojfaaAwake8
import Derived.Test.YthngehpmoiojfaaAllRun8
import Derived.Test.YthngehpmoiojfaaChecks8
import Derived.Test.YthngehpmoiojfaaBad8
import Derived.Test.YthngehpmoiojfaaRows
import Derived.Test.YthngehpmoiojfaaPost
import Derived.Test.YthngehpmoiojfaaArgs8
import Derived.Test.YthngehpmoiojfaaLists
namespace Go.Proofs.Ythngehpmoiojfaa
open Go.RowKit

theorem ints_same8 {u v : Value} {A : List Int} {w : World} (hu : NumsIn w u A) (hv : NumsIn w v A) (hA : A.length ≤ 1000000) :
    Calls Try.prog 11 #[u, v] w fun e w' => e = .returned (.bool true) ∧ Below w.heap.size w w' :=
  (ref_Ints u v A A w hu hv hA hA).mono fun e w' ⟨h1, h2⟩ => ⟨by rw [h1]; simp, h2⟩
theorem all_small {L : List CallZ} (h : L.length ≤ 7) : ((allZ L).head?.getD []).length ≤ 1000000 := by
  cases hc : allZ L with
  | nil => simp
  | cons t ts =>
    have ht : t ∈ allZ L := by rw [hc]; simp
    have hk := (List.mem_filter.1 ht).2
    have : t.length = L.length := by
      unfold refCheckZ at hk
      rw [Bool.and_eq_true] at hk
      exact of_decide_eq_true hk.1
    simp only [List.head?_cons, Option.getD_some]
    omega
/-- The words behind the loop. -/
structure OSt (w : World) (a oa : Option Addr) (c oc : Nat) (L : List CallZ) (O : List Int) (w' : World) : Prop where
  below : Below w.heap.size w w'
  calls : CallsIn w' (.slice a L.length c) L
  nums : NumsF w' (.slice oa O.length oc) O
theorem OSt.step {w w' w'' : World} {a oa : Option Addr} {c oc : Nat} {L : List CallZ} {O : List Int} (h : OSt w a oa c oc L O w') (hb : Below w'.heap.size w' w'') : OSt w a oa c oc L O w'' :=
  ⟨h.below.trans (hb.mono h.below.size), h.calls.below hb, h.nums.below hb⟩
set_option maxRecDepth 100000 in
set_option maxHeartbeats 4000000 in
theorem orders8 {w : World} {a oa : Option Addr} {c oc : Nat} {L : List CallZ} {O : List Int} (hL : RecsIn 15 callV w a L) (hO : ListIn numV w oa O) :
    Calls Try.prog 3 #[.slice a L.length c, .slice oa O.length oc] w fun e w' => e = .returned (.bool true) ∧ Below w.heap.size w w' := by
  have S0 : Hid (OSt w a oa c oc L O w) := Lib.hid ⟨Below.refl _ _, ⟨a, c, rfl, hL⟩, NumsF.arg hO⟩
  clear hL hO
  by_cases h7 : 7 < L.length
  · generalize L.length = n at *
    have hd : decide (7 < n) = true := by simpa using h7
    have S1 : Hid (Below w.heap.size w w) := Lib.hid (Below.refl _ _)
    go_enter Try.func3, Try.ntmps3
    go_wp2_with fail
    refine (awake8 w).mono ?_
    rintro e w1 ⟨rfl, hb⟩
    have B1 := Lib.hid hb
    clear hb
    go_wp2
    go_ret
    exact ⟨rfl, B1.out⟩
  by_cases h20 : 20 < O.length
  · have hd7 : decide (7 < L.length) = false := by simpa using h7
    generalize O.length = m at *
    have hd : decide (20 < m) = true := by simpa using h20
    go_enter Try.func3, Try.ntmps3
    go_wp2_with fail
    refine (awake8 w).mono ?_
    rintro e w1 ⟨rfl, hb⟩
    have B1 := Lib.hid hb
    clear hb
    go_wp2
    go_ret
    exact ⟨rfl, B1.out⟩
  have hd7 : decide (7 < L.length) = false := by simpa using h7
  have hd20 : decide (20 < O.length) = false := by simpa using h20
  go_enter Try.func3, Try.ntmps3
  go_wp2_with fail
  refine (awake8 w).mono ?_
  rintro e w1 ⟨rfl, hb⟩
  have S1 := Lib.hid (S0.out.step hb)
  clear hb S0
  go_wp2_with fail
  refine (ref_Bad S1.out.calls (by omega)).mono ?_
  rintro e w2 ⟨rfl, hb⟩
  have S2 := Lib.hid (S1.out.step hb)
  obtain ⟨rb, hrb⟩ : ∃ rb, rightR [] L = rb := ⟨_, rfl⟩
  have HRB := Lib.hid hrb
  rw [hrb]
  clear hb S1 hrb
  cases rb with
  | false =>
    go_wp2
    go_ret
    exact ⟨rfl, S2.out.below⟩
  | true =>
    go_wp2_with fail
    go_loopw [5] (fun i wr => ∃ k : Nat, k ≤ L.length ∧ i = .int .i64 k ∧ Hid (∀ y ∈ L.take k, y.op.p.size ≤ 100) ∧ w2 = wr) (fun i _ => L.length - (intOf i).toNat)
    case atStart => exact ⟨0, Nat.zero_le _, rfl, Lib.hid (fun y hy => by simp at hy), rfl⟩
    case round =>
      obtain ⟨k, hk, rfl, HY, rfl⟩ := hrel
      by_cases hlt : k < L.length
      · obtain ⟨a', c', e', hr⟩ := S2.out.calls
        have ea : a' = a := by injection e' with h1; exact h1.symm
        subst ea
        obtain ⟨b, off, rfl, hb, hx⟩ := hr k _ (List.getElem?_eq_getElem hlt)
        have y5 := hx 5 _ rfl
        have HS := Lib.hid (show (∀ y ∈ L.take k, y.op.p.size ≤ 100) → L[k].op.p.size ≤ 100 → ∀ y ∈ L.take (k + 1), y.op.p.size ≤ 100 from fun h1 h2 y hy => by
          rw [List.take_succ_eq_append_getElem hlt, List.mem_append, List.mem_singleton] at hy
          rcases hy with hy | rfl
          · exact h1 y hy
          · exact h2)
        generalize L[k] = y at y5 HS
        clear hx hr e'
        by_cases hp : y.op.p.size ≤ 100
        · have HY' := Lib.hid (HS.out HY.out hp)
          have hd : decide (100 < y.op.p.size) = false := by simpa using hp
          go_wp2_with fail
          go_roundw
          case rel => exact ⟨k + 1, by omega, by go_num, HY', by trivial⟩
          case measure => simp [intOf]; omega
        · have hd : decide (100 < y.op.p.size) = true := by simpa using hp
          go_wp2
          go_ret
          exact ⟨rfl, S2.out.below⟩
      · obtain rfl : k = L.length := by omega
        have hsm : ∀ y ∈ L, y.op.p.size ≤ 100 := by have := HY.out; rwa [List.take_length] at this
        have HSM := Lib.hid hsm
        have h7' : L.length ≤ 7 := by omega
        clear HY hsm
        go_wp2_with fail
        refine (ref_All S2.out.calls h7').mono ?_
        rintro e w3 ⟨r, rfl, hn, hb⟩
        have S3 := Lib.hid (S2.out.step hb)
        obtain ⟨ra, rc, er, _⟩ := hn.form
        subst er
        have N3 := Lib.hid hn
        obtain ⟨m, hm⟩ : ∃ m, (allZ L).length = m := ⟨_, rfl⟩
        have HM := Lib.hid hm
        rw [hm]
        have hml : m ≤ 5041 := by rw [← hm]; exact allZ_len L
        clear hb hn hm
        go_wp2_with fail
        refine (law_machine _).mono ?_
        rintro e w4 ⟨rfl, hb⟩
        have S4 := Lib.hid (S3.out.step hb)
        have N4 := Lib.hid (SliceK.below N3.out hb)
        clear hb N3
        go_wp2_with fail
        refine (lin_Order (c := 100) S4.out.calls (by omega) (by decide) HSM.out (cost_all h7')).mono ?_
        rintro e w5 ⟨r2, rfl, hn, hb⟩
        have S5 := Lib.hid (S4.out.step hb)
        have N5 := Lib.hid (SliceK.below N4.out hb)
        rw [show resF L D24 st0 = (allZ L).head? from res_all h7'] at hn ⊢
        rw [some_all, HM.out]
        obtain ⟨ra2, rc2, er2, _⟩ := hn.form
        subst er2
        have M5 := Lib.hid hn
        have hsz := Lib.hid (all_small h7')
        clear hb hn N4
        generalize ((allZ L).head?.getD []) = F at *
        by_cases h0 : 0 < m
        · have b1 : decide (0 < m) = true := by simpa using h0
          have b2 : 0 < (m : Int) := by omega
          rw [b1]
          go_wp2_with fail
          refine (ints_same8 M5.out N5.out hsz.out).mono ?_
          rintro e w6 ⟨rfl, hb⟩
          have S6 := Lib.hid (S5.out.step hb)
          clear hb
          go_wp2_with fail
          refine (law_machine _).mono ?_
          rintro e w7 ⟨rfl, hb⟩
          have S7 := Lib.hid (S6.out.step hb)
          clear hb
          go_wp2_with fail
          refine (lin_Count (c := 100) S7.out.calls (by omega) HSM.out (by rw [show cntF L D24 st0 = (allZ L).length from cnt_all h7', HM.out]; omega) (cost_all h7')).mono ?_
          rintro e w8 ⟨rfl, hb⟩
          rw [show cntF L D24 st0 = (allZ L).length from cnt_all h7', HM.out]
          have S8 := Lib.hid (S7.out.step hb)
          clear hb
          go_wp2_with fail
          refine (law_machine _).mono ?_
          rintro e w9 ⟨rfl, hb⟩
          have S9 := Lib.hid (S8.out.step hb)
          clear hb
          go_wp2_with fail
          refine (lin_Check S9.out.calls (by omega) S9.out.nums (by omega)).mono ?_
          rintro e w10 ⟨rfl, hb⟩
          rw [check_same smallM L (right_to L [] HRB.out)]
          have S10 := Lib.hid (S9.out.step hb)
          clear hb
          go_wp2_with fail
          refine (ref_Check8 S10.out.calls (by omega) S10.out.nums).mono ?_
          rintro e w11 ⟨rfl, hb⟩
          have S11 := Lib.hid (S10.out.step hb)
          generalize refCheckZ smallM L st0 O = ck
          clear hb
          cases ck
          all_goals
            go_wp2
            go_ret
            exact ⟨rfl, S11.out.below⟩
        · obtain rfl : m = 0 := by omega
          rw [show decide (0 < 0) = false from rfl]
          go_wp2_with fail
          refine (ints_same8 M5.out N5.out hsz.out).mono ?_
          rintro e w6 ⟨rfl, hb⟩
          have S6 := Lib.hid (S5.out.step hb)
          clear hb
          go_wp2_with fail
          refine (law_machine _).mono ?_
          rintro e w7 ⟨rfl, hb⟩
          have S7 := Lib.hid (S6.out.step hb)
          clear hb
          go_wp2_with fail
          refine (lin_Count (c := 100) S7.out.calls (by omega) HSM.out (by rw [show cntF L D24 st0 = (allZ L).length from cnt_all h7', HM.out]; omega) (cost_all h7')).mono ?_
          rintro e w8 ⟨rfl, hb⟩
          rw [show cntF L D24 st0 = (allZ L).length from cnt_all h7', HM.out]
          have S8 := Lib.hid (S7.out.step hb)
          clear hb
          go_wp2_with fail
          refine (law_machine _).mono ?_
          rintro e w9 ⟨rfl, hb⟩
          have S9 := Lib.hid (S8.out.step hb)
          clear hb
          go_wp2_with fail
          refine (lin_Check S9.out.calls (by omega) S9.out.nums (by omega)).mono ?_
          rintro e w10 ⟨rfl, hb⟩
          rw [check_same smallM L (right_to L [] HRB.out)]
          have S10 := Lib.hid (S9.out.step hb)
          clear hb
          go_wp2_with fail
          refine (ref_Check8 S10.out.calls (by omega) S10.out.nums).mono ?_
          rintro e w11 ⟨rfl, hb⟩
          have S11 := Lib.hid (S10.out.step hb)
          generalize refCheckZ smallM L st0 O = ck
          clear hb
          cases ck
          all_goals
            go_wp2
            go_ret
            exact ⟨rfl, S11.out.below⟩

end Go.Proofs.Ythngehpmoiojfaa

namespace Go.Proofs.Ythngehpmoiojfaa
open Go.ChangeShapes Go.WideShapes Go.ChangeAt Go.RowKit
open Go.ChangeMaps (open_string shut_string)

theorem linOrders_laid : laidOutB Try.prog = true := by kernel_rfl
theorem linOrders_own : ownKnob Try.prog.godebug = none := by kernel_rfl

set_option linter.unusedVariables false in
set_option maxRecDepth 100000 in
theorem linOrders_lifted (os : Os) (started : os.Started) (H : Type) (enc : TypeId × Value → H) :
    ReturnsInHanded {} Try.checked os 3 .any (Rows.linOrdersSpec.pre6 enc Try.prog Try.f3 Rows.linOrdersRow.domain false) (Rows.linOrdersSpec.post enc Try.prog Try.f3 false true false false) := by
  refine returnsInHanded_of_change (C := Try.checked) linOrders_own started (by kernel_rfl) Try.func3
    (ChangeSpec.witness6 (enc := enc) (C := Try.checked) false ⟨#[], #[.slice none 0 0, .slice none 0 0], []⟩ 8 (by kernel_rfl) (by kernel_rfl) (by kernel_rfl) (by kernel_rfl)) ?_
  intro W base args ds gs before hval0 hW hcnd _
  have hval : ∀ (j : Nat) t v, Try.f3.params[j]? = some t → args[j]? = some v → Value.okWide Try.prog W .any base t v := hval0
  have hW' := hW
  obtain ⟨p, q, hA0, hV, rfl, hfz, hnd⟩ := hW
  have hlt : ∀ x ∈ p, x.block < W.heap.size := fun x hx => by simpa using hW'.lt x (by simp [hx])
  have hA : DataW.TrodAll enc Try.prog W 0 (fun _ => true) true Try.f3.params.toList args.toList ds p := hA0
  rw [Try.params3] at hA hval
  have hA1 := hA
  obtain ⟨v0, vs0, d0, ds0, p0, q0, hargs, rfl, rfl, h0, r0⟩ := trodAll_cons hA
  obtain ⟨v1, vs1, d1, ds1, p1, q1, rfl, rfl, rfl, h1, r1⟩ := trodAll_cons r0
  obtain ⟨rfl, rfl, rfl⟩ := trodAll_nil r1
  obtain rfl : args = #[v0, v1] := by cases args; simp_all
  obtain ⟨rfl, rfl⟩ := trodVars_none hV
  obtain ⟨a0, len0, cap0, rfl⟩ := okWide_slice Try.underlying22 (hval 0 22 v0 rfl rfl)
  obtain ⟨a1, len1, cap1, rfl⟩ := okWide_slice Try.underlying23 (hval 1 23 v1 rfl rfl)
  clear hA0 hval0
  simp only [List.append_nil] at hW'
  obtain ⟨L0, hlen0, t0⟩ := open_calls h0 (fun x hx => hlt x (by simp [hx]))
  subst hlen0
  obtain ⟨L1, hlen1, t1⟩ := open_nums Try.underlying23 Try.underlying3 (by kernel_rfl) h1 (fun x hx => hlt x (by simp [hx]))
  subst hlen1
  refine (orders8 (c := cap0) (oc := cap1) t0.1 t1).mono fun e W' ⟨he, hg⟩ => ?_
  subst he
  exact ⟨_, rfl, law_post (pv := []) hW' (fun _ => (trodAll_cons_mk (shut_bool Try.underlying4 _) trodAll_mk0)) (trodAll_below (P := Try.prog) linOrders_laid hg (of_decide_eq_true (by kernel_rfl)) hA1 hlt) rfl (by simp) hg⟩

/-- The statement. -/
theorem linOrders_holds : Rows.LinOrdersSaid :=
  OpenClaim.holds_of_wide 3 Try.f3 rfl rfl rfl rfl rfl rfl rfl ⟨rfl, rfl, rfl, rfl, rfl⟩ rfl rfl rfl rfl rfl (by kernel_rfl) Try.func3 (by kernel_rfl)
    (of_decide_eq_true (by kernel_rfl)) (by unfold Func.isWrapper; first | (rw [if_pos (by decide +kernel)]; kernel_rfl) | (rw [if_neg (by decide +kernel)]; exact ⟨rfl, rfl⟩))
    (fun os started H enc _ => linOrders_lifted os started H enc)
#print axioms linOrders_holds

end Go.Proofs.Ythngehpmoiojfaa
