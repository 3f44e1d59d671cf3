/- The three statements of layer 2, as walks: each returns true and changes nothing that was there. No conditions. -/
import Derived.Test.YtaebbemoijdfnaaRef2C
import Derived.Deep.RegionWith
import Derived.Deep.CutRange
namespace Go.Proofs.Ytaebbemoijdfnaa
open Go.RowKit Go.Shelf

set_option maxHeartbeats 1000000 in
theorem awake2 (w : World) : Calls Try.prog 6 #[] w fun e w' => e = .returned (.bool true) ∧ Below w.heap.size w w' := by
  go_enter Try.func6, Try.ntmps6
  go_wp2_with fail
  refine (match_Match _ _ _).mono ?_
  rintro e w1 ⟨rfl, h1⟩
  rw [show matchZ (⟨#[97, 47, 43]⟩ : ByteArray).data.toList (⟨#[97, 47, 98]⟩ : ByteArray).data.toList = true by decide]
  go_wp2_with fail
  refine (match_Match _ _ _).mono ?_
  rintro e w2 ⟨rfl, h2⟩
  rw [show matchZ (⟨#[97, 47, 43]⟩ : ByteArray).data.toList (⟨#[97]⟩ : ByteArray).data.toList = false by decide]
  go_wp2_with fail
  refine (match_Match _ _ _).mono ?_
  rintro e w3 ⟨rfl, h3⟩
  rw [show matchZ (⟨#[97, 47, 43]⟩ : ByteArray).data.toList (⟨#[97, 47, 98, 47, 99]⟩ : ByteArray).data.toList = false by decide]
  go_wp2
  go_ret
  exact ⟨rfl, below_step (below_step h1 h2) h3⟩

/-- bellmanref01.Long. -/
theorem ref_Long (s : ByteArray) (w : World) :
    Calls Try.prog 7 #[.string s] w fun e w' => e = .returned (.bool (decide (300 < s.size))) ∧ w = w' := by
  by_cases h : 300 < s.size
  · refine (ref_Long_yes s w h).mono ?_
    rintro e w' ⟨rfl, rfl⟩
    exact ⟨by rw [decide_eq_true h], rfl⟩
  · refine (ref_Long_no s w (by omega)).mono ?_
    rintro e w' ⟨rfl, rfl⟩
    exact ⟨by rw [decide_eq_false h], rfl⟩

set_option maxHeartbeats 2000000 in
theorem covers_walk (f g t : ByteArray) (w : World) :
    Calls Try.prog 4 #[.string f, .string g, .string t] w fun e w' => e = .returned (.bool true) ∧ Below w.heap.size w w' := by
  by_cases hf : 300 < f.size
  · have HF := Lib.hid (decide_eq_true hf)
    clear hf
    go_enter Try.func4, Try.ntmps4
    go_wp2_with fail
    refine (awake2 _).mono ?_
    rintro e w1 ⟨rfl, h1⟩
    go_wp2_with fail
    refine (ref_Long _ _).mono ?_
    rintro e w' ⟨rfl, rfl⟩
    rw [HF.out]
    go_wp2
    go_ret
    exact ⟨rfl, h1⟩
  by_cases hg : 300 < g.size
  · have HF := Lib.hid (decide_eq_false hf)
    have HG := Lib.hid (decide_eq_true hg)
    clear hf hg
    go_enter Try.func4, Try.ntmps4
    go_wp2_with fail
    refine (awake2 _).mono ?_
    rintro e w1 ⟨rfl, h1⟩
    go_wp2_with fail
    refine (ref_Long _ _).mono ?_
    rintro e w' ⟨rfl, rfl⟩
    rw [HF.out]
    go_wp2_with fail
    refine (ref_Long _ _).mono ?_
    rintro e w' ⟨rfl, rfl⟩
    rw [HG.out]
    go_wp2
    go_ret
    exact ⟨rfl, h1⟩
  by_cases ht : 300 < t.size
  · have HF := Lib.hid (decide_eq_false hf)
    have HG := Lib.hid (decide_eq_false hg)
    have HT := Lib.hid (decide_eq_true ht)
    clear hf hg ht
    go_enter Try.func4, Try.ntmps4
    go_wp2_with fail
    refine (awake2 _).mono ?_
    rintro e w1 ⟨rfl, h1⟩
    go_wp2_with fail
    refine (ref_Long _ _).mono ?_
    rintro e w' ⟨rfl, rfl⟩
    rw [HF.out]
    go_wp2_with fail
    refine (ref_Long _ _).mono ?_
    rintro e w' ⟨rfl, rfl⟩
    rw [HG.out]
    go_wp2_with fail
    refine (ref_Long _ _).mono ?_
    rintro e w' ⟨rfl, rfl⟩
    rw [HT.out]
    go_wp2
    go_ret
    exact ⟨rfl, h1⟩
  have HF := Lib.hid (decide_eq_false hf)
  have HG := Lib.hid (decide_eq_false hg)
  have HT := Lib.hid (decide_eq_false ht)
  have hf1 : f.size ≤ 1048576 := by omega
  have ht1 : t.size ≤ 1048576 := by omega
  clear hf hg ht
  go_enter Try.func4, Try.ntmps4
  go_wp2_with fail
  refine (awake2 _).mono ?_
  rintro e w1 ⟨rfl, h1⟩
  go_wp2_with fail
  refine (ref_Long _ _).mono ?_
  rintro e w' ⟨rfl, rfl⟩
  rw [HF.out]
  go_wp2_with fail
  refine (ref_Long _ _).mono ?_
  rintro e w' ⟨rfl, rfl⟩
  rw [HG.out]
  go_wp2_with fail
  refine (ref_Long _ _).mono ?_
  rintro e w' ⟨rfl, rfl⟩
  rw [HT.out]
  clear HF HG HT
  go_upto_region 5 with fail
  go_cut [32] from 19 to 60 (fun c wx => c = .bool false ∧ Below w.heap.size w wx)
  case first =>
    go_wp2_with fail
    refine (match_Covers _ _ _).mono ?_
    rintro e w2 ⟨rfl, h2⟩
    have B2 := below_step h1 h2
    cases hc : coversZ f.data.toList g.data.toList
    · go_wp2_with fail
      go_meet
      case rel => exact ⟨rfl, B2⟩
    · have HC := Lib.hid hc
      clear hc
      go_wp2_with fail
      refine (match_Match _ _ _).mono ?_
      rintro e w3 ⟨rfl, h3⟩
      cases hm : matchZ g.data.toList t.data.toList
      · go_wp2_with fail
        go_meet
        case rel => exact ⟨rfl, below_step B2 h3⟩
      · have HM := Lib.hid (covers_matches _ _ _ HC.out hm)
        clear hm
        go_wp2_with fail
        refine (match_Match _ _ _).mono ?_
        rintro e w4 ⟨rfl, h4⟩
        rw [HM.out]
        go_wp2_with fail
        go_meet
        case rel => exact ⟨rfl, below_step (below_step B2 h3) h4⟩
  case rest =>
    obtain ⟨rfl, hcut1⟩ := hcut
    go_upto_region 7 with fail
    go_cut [48] from 33 to 60 (fun c wx => c = .bool false ∧ Below w.heap.size w wx)
    case first =>
      cases htt : topicZ t.data.toList
      · have HQ : Hid (∀ w, Calls Try.prog 14 #[.string t] w fun e w' => e = .returned (.bool false) ∧ w' = w) := fun w =>
          (ref_Topic t w ht1).mono (by rintro e w' ⟨rfl, rfl⟩; exact ⟨by rw [htt], rfl⟩)
        clear htt
        go_wp2_with fail
        go_quiet (first | (go_at_call 14; exact Calls.quiet_of_same (HQ.out _)))
        go_wp2_with fail
        go_meet
        case rel => exact ⟨rfl, below_draws hcut1 _⟩
      · have hts := size_of_bytes (topicZ_bytes htt)
        have h0 : 0 < t.size := by omega
        have HS := Lib.hid (match_self _ htt)
        have HTT := Lib.hid htt
        have hh := (match_hash _ htt).trans (by rw [apart_at t h0])
        clear htt
        cases hap : ((t[0].toNat : Int) == 36)
        · rw [hap] at hh
          have HH := Lib.hid hh
          have hap2 : ((t[0].toNat : Int) != 36) = true := by simpa using hap
          clear hh
          go_wp2_with fail
          go_region_with (first
            | (go_at_call 14; refine (ref_Topic _ _ ht1).mono ?_; rintro e w' ⟨rfl, rfl⟩; rw [HTT.out])
            | (go_at_call_of 8 (Value.string (⟨#[35]⟩ : ByteArray)); refine (match_Match _ _ _).mono ?_; rintro e w4 ⟨rfl, h4⟩; rw [show matchZ (⟨#[35]⟩ : ByteArray).data.toList t.data.toList = true from HH.out])
            | (go_at_call 8; refine (match_Match _ _ _).mono ?_; rintro e w3 ⟨rfl, h3⟩; rw [HS.out]))
          all_goals
            go_wp2_with fail
            go_meet
            case rel => exact ⟨rfl, below_step (below_step hcut1.drew h3) h4⟩
        · rw [hap] at hh
          have HH := Lib.hid hh
          have hap2 : ((t[0].toNat : Int) != 36) = false := by simpa using hap
          clear hh
          go_wp2_with fail
          go_region_with (first
            | (go_at_call 14; refine (ref_Topic _ _ ht1).mono ?_; rintro e w' ⟨rfl, rfl⟩; rw [HTT.out])
            | (go_at_call_of 8 (Value.string (⟨#[35]⟩ : ByteArray)); refine (match_Match _ _ _).mono ?_; rintro e w4 ⟨rfl, h4⟩; rw [show matchZ (⟨#[35]⟩ : ByteArray).data.toList t.data.toList = false from HH.out])
            | (go_at_call 8; refine (match_Match _ _ _).mono ?_; rintro e w3 ⟨rfl, h3⟩; rw [HS.out]))
          all_goals
            go_wp2_with fail
            go_meet
            case rel => exact ⟨rfl, below_step (below_step hcut1.drew h3) h4⟩
    case rest =>
      obtain ⟨rfl, hcut⟩ := hcut
      go_wp2_with fail
      refine (ref_Filter _ _ hf1).mono ?_
      rintro e w5 ⟨rfl, h5⟩
      cases hff : filterZ f.data.toList
      · go_wp2
        go_ret
        exact ⟨rfl, below_step hcut h5⟩
      · have HFF := Lib.hid hff
        clear hff
        go_wp2_with fail
        refine (ref_Wild _ _ hf1).mono ?_
        rintro e w6 ⟨rfl, h6⟩
        cases hww : wildZ f.data.toList
        · have HS := Lib.hid (covers_self _ HFF.out hww)
          clear hww
          go_wp2_with fail
          refine (match_Covers _ _ _).mono ?_
          rintro e w7 ⟨rfl, h7⟩
          rw [HS.out]
          go_wp2
          go_ret
          exact ⟨rfl, below_step (below_step (below_step hcut h5) h6) h7⟩
        · go_wp2
          go_ret
          exact ⟨rfl, below_step (below_step hcut h5) h6⟩

end Go.Proofs.Ytaebbemoijdfnaa
