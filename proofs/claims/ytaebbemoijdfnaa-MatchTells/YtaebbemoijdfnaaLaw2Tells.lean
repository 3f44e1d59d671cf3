/- The statement MatchTells of layer 2, as a walk: it returns true and changes nothing that was there. No conditions. -/
import Derived.Test.YtaebbemoijdfnaaLaw2
namespace Go.Proofs.Ytaebbemoijdfnaa
open Go.RowKit Go.Shelf

set_option maxHeartbeats 1000000 in
/-- One of the three texts is long. -/
theorem tells2_long (f g t : ByteArray) (v : Value) (w : World) (h : 300 < f.size ∨ 300 < g.size ∨ 300 < t.size) :
    Calls Try.prog 3 #[.string f, .string g, .string t, v] w fun e w' => e = .returned (.bool true) ∧ Below w.heap.size w w' := by
  by_cases hf : 300 < f.size
  · have HF := Lib.hid (decide_eq_true hf)
    clear hf h
    go_enter Try.func3, Try.ntmps3
    go_wp2_with fail
    refine (awake2 _).mono ?_
    rintro e w1 ⟨rfl, h1⟩
    go_wp2_with fail
    refine (ref_Long _ _).mono ?_
    rintro e w' ⟨rfl, rfl⟩
    rw [HF.out]
    go_wp2
    go_ret
    exact ⟨rfl, h1⟩
  by_cases hg : 300 < g.size
  · have HF := Lib.hid (decide_eq_false hf)
    have HG := Lib.hid (decide_eq_true hg)
    clear hf hg h
    go_enter Try.func3, Try.ntmps3
    go_wp2_with fail
    refine (awake2 _).mono ?_
    rintro e w1 ⟨rfl, h1⟩
    go_wp2_with fail
    refine (ref_Long _ _).mono ?_
    rintro e w' ⟨rfl, rfl⟩
    rw [HF.out]
    go_wp2_with fail
    refine (ref_Long _ _).mono ?_
    rintro e w' ⟨rfl, rfl⟩
    rw [HG.out]
    go_wp2
    go_ret
    exact ⟨rfl, h1⟩
  have HF := Lib.hid (decide_eq_false hf)
  have HG := Lib.hid (decide_eq_false hg)
  have HT := Lib.hid (decide_eq_true (show 300 < t.size by omega))
  clear hf hg h
  go_enter Try.func3, Try.ntmps3
  go_wp2_with fail
  refine (awake2 _).mono ?_
  rintro e w1 ⟨rfl, h1⟩
  go_wp2_with fail
  refine (ref_Long _ _).mono ?_
  rintro e w' ⟨rfl, rfl⟩
  rw [HF.out]
  go_wp2_with fail
  refine (ref_Long _ _).mono ?_
  rintro e w' ⟨rfl, rfl⟩
  rw [HG.out]
  go_wp2_with fail
  refine (ref_Long _ _).mono ?_
  rintro e w' ⟨rfl, rfl⟩
  rw [HT.out]
  go_wp2
  go_ret
  exact ⟨rfl, h1⟩

set_option maxRecDepth 100000 in
set_option maxHeartbeats 2000000 in
theorem tells2_walk (f g t : ByteArray) (a : Option Addr) (cap : Nat) (L : List (List UInt8)) (w : World) (hT : TextsIn w a L) :
    Calls Try.prog 3 #[.string f, .string g, .string t, .slice a L.length cap] w fun e w' => e = .returned (.bool true) ∧ Below w.heap.size w w' := by
  by_cases hlong : 300 < f.size ∨ 300 < g.size ∨ 300 < t.size
  · exact tells2_long f g t _ w hlong
  have HF := Lib.hid (decide_eq_false (show ¬ 300 < f.size by omega))
  have HG := Lib.hid (decide_eq_false (show ¬ 300 < g.size by omega))
  have HT := Lib.hid (decide_eq_false (show ¬ 300 < t.size by omega))
  have hf1 : f.size ≤ 1048576 := by omega
  have hg1 : g.size ≤ 1048576 := by omega
  have ht1 : t.size ≤ 1048576 := by omega
  clear hlong
  have HTX := Lib.hid hT
  clear hT
  by_cases h50 : 50 < L.length
  · go_enter Try.func3, Try.ntmps3
    go_wp2_with fail
    refine (awake2 _).mono ?_
    rintro e w1 ⟨rfl, h1⟩
    go_wp2_with fail
    refine (ref_Long _ _).mono ?_
    rintro e w' ⟨rfl, rfl⟩
    rw [HF.out]
    go_wp2_with fail
    refine (ref_Long _ _).mono ?_
    rintro e w' ⟨rfl, rfl⟩
    rw [HG.out]
    go_wp2_with fail
    refine (ref_Long _ _).mono ?_
    rintro e w' ⟨rfl, rfl⟩
    rw [HT.out]
    go_wp2
    go_ret
    exact ⟨rfl, h1⟩
  have h50' : decide ((50 : Int) < (L.length : Int)) = false := by simp; omega
  go_enter Try.func3, Try.ntmps3
  go_wp2_with fail
  refine (awake2 _).mono ?_
  rintro e w1 ⟨rfl, h1⟩
  go_wp2_with fail
  refine (ref_Long _ _).mono ?_
  rintro e w' ⟨rfl, rfl⟩
  rw [HF.out]
  go_wp2_with fail
  refine (ref_Long _ _).mono ?_
  rintro e w' ⟨rfl, rfl⟩
  rw [HG.out]
  go_wp2_with fail
  refine (ref_Long _ _).mono ?_
  rintro e w' ⟨rfl, rfl⟩
  rw [HT.out]
  have HT1 := Lib.hid (HTX.out.below h1)
  clear HTX HF HG HT
  go_wp2
  go_loop [9] (fun i => ∃ k : Nat, k ≤ L.length ∧ i = .int .i64 k ∧ Hid (∀ x, x ∈ L.take k → x.length ≤ 300)) (fun i => L.length - (intOf i).toNat)
  case atStart => exact ⟨0, Nat.zero_le _, rfl, by intro x hx; simp at hx⟩
  case round =>
    obtain ⟨k, hk, rfl, H⟩ := hrel
    by_cases hlt : k < L.length
    · obtain ⟨x, HX⟩ : ∃ x, Hid (L[k]? = some x) := ⟨L[k], List.getElem?_eq_getElem hlt⟩
      obtain ⟨b, off, rfl, hbl, hcx⟩ := HT1.out k x HX.out
      have hsz : (⟨x.toArray⟩ : ByteArray).size = x.length := by show x.toArray.size = _; simp
      by_cases hxl : 300 < x.length
      · have HLX := Lib.hid (decide_eq_true (show 300 < (⟨x.toArray⟩ : ByteArray).size by rw [hsz]; exact hxl))
        clear hsz
        go_wp2_with fail
        refine (ref_Long _ _).mono ?_
        rintro e w' ⟨rfl, rfl⟩
        rw [HLX.out]
        go_wp2
        go_ret
        exact ⟨rfl, h1⟩
      · have HLX := Lib.hid (decide_eq_false (show ¬ 300 < (⟨x.toArray⟩ : ByteArray).size by rw [hsz]; exact hxl))
        clear hsz
        go_wp2_with fail
        refine (ref_Long _ _).mono ?_
        rintro e w' ⟨rfl, rfl⟩
        rw [HLX.out]
        go_wp2
        go_round
        case rel =>
          refine ⟨k + 1, by omega, by go_num, ?_⟩
          intro y hy
          obtain ⟨hk', e⟩ := List.getElem?_eq_some_iff.1 HX.out
          rw [List.take_succ_eq_append_getElem hk', List.mem_append, e] at hy
          rcases hy with hy | hy
          · exact H.out y hy
          · simp at hy; subst hy; omega
        case measure => simp [intOf]; omega
    · have HS := Lib.hid (show ∀ x, x ∈ L → x.length ≤ 1048576 from fun x hx => by
        have := H.out x (by rw [List.take_of_length_le (by omega)]; exact hx); omega)
      clear H
      go_wp2_with fail
      refine (match_Match _ _ _).mono ?_
      rintro e w2 ⟨rfl, h2⟩
      go_wp2_with fail
      refine (ref2_Match _ _ _ hf1 ht1).mono ?_
      rintro e w3 ⟨rfl, h3⟩
      go_wp2_with fail
      refine (match_Covers _ _ _).mono ?_
      rintro e w4 ⟨rfl, h4⟩
      go_wp2_with fail
      refine (ref2_Covers _ _ _ hf1 hg1).mono ?_
      rintro e w5 ⟨rfl, h5⟩
      have HT5 := Lib.hid ((((HT1.out.below h2).below h3).below h4).below h5)
      go_wp2_with fail
      refine (match_Any _ _ _ _ _ (by omega) HT5.out).mono ?_
      rintro e w6 ⟨rfl, h6⟩
      have HT6 := Lib.hid (HT5.out.below h6)
      go_wp2_with fail
      refine (ref2_Any _ _ _ _ _ (by omega) HS.out ht1 HT6.out).mono ?_
      rintro e w7 ⟨rfl, h7⟩
      go_wp2
      go_ret
      exact ⟨by simp, below_step (below_step (below_step (below_step (below_step (below_step h1 h2) h3) h4) h5) h6) h7⟩

end Go.Proofs.Ytaebbemoijdfnaa
