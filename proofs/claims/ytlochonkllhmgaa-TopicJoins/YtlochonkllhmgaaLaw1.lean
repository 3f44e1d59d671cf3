/- The three statements of layer 1, as walks: each returns true and changes nothing that was there. No conditions. -/
import Derived.Test.YtlochonkllhmgaaTopic1
namespace Go.Proofs.Ytlochonkllhmgaa
open Go.RowKit Go.Shelf

set_option maxHeartbeats 1000000 in
theorem awake1 (w : World) : Calls Try.prog 6 #[] w fun e w' => e = .returned (.bool true) ∧ Below w.heap.size w w' := by
  go_enter Try.func6, Try.ntmps6
  go_wp2_with fail
  refine (topic_Filter _ _).mono ?_
  rintro e w1 ⟨rfl, h1⟩
  rw [show filterZ (⟨#[97, 47, 43, 47, 35]⟩ : ByteArray).data.toList = true by decide]
  go_wp2_with fail
  refine (topic_Filter _ _).mono ?_
  rintro e w2 ⟨rfl, h2⟩
  rw [show filterZ (⟨#[97, 35]⟩ : ByteArray).data.toList = false by decide]
  go_wp2_with fail
  refine (topic_Filter _ _).mono ?_
  rintro e w3 ⟨rfl, h3⟩
  rw [show filterZ (⟨#[97, 47, 35, 47, 98]⟩ : ByteArray).data.toList = false by decide]
  go_wp2_with fail
  refine (topic_Filter _ _).mono ?_
  rintro e w4 ⟨rfl, h4⟩
  rw [show filterZ (⟨#[47, 43, 97]⟩ : ByteArray).data.toList = false by decide]
  go_wp2
  go_ret
  exact ⟨rfl, ((h1.trans (h2.mono h1.size)).trans (h3.mono (Nat.le_trans h1.size h2.size))).trans (h4.mono (Nat.le_trans h1.size (Nat.le_trans h2.size h3.size)))⟩

theorem below_draws {B : Nat} {a w : World} (h : Below B a w) (n : Nat) : Below B a (w.drewN n) := ⟨h.os, h.tape, h.output, h.size, h.block⟩
theorem below_step {w a b : World} (h : Below w.heap.size w a) (k : Below a.heap.size a b) : Below w.heap.size w b := h.trans (k.mono h.size)

set_option maxHeartbeats 2000000 in
theorem tells_walk (s : ByteArray) (w : World) :
    Calls Try.prog 3 #[.string s] w fun e w' => e = .returned (.bool true) ∧ Below w.heap.size w w' := by
  by_cases hl : s.size ≤ 300
  · have hs : s.size ≤ 1048576 := by omega
    have hll : (lv s.data.toList).length ≤ 1048576 := by
      have h1 := lv_length s.data.toList
      have h2 := List.count_le_length (a := (47 : UInt8)) (l := s.data.toList)
      rw [← Lib.size_eq] at h2; omega
    go_enter Try.func3, Try.ntmps3
    go_wp2_with fail
    refine (awake1 _).mono ?_
    rintro e w1 ⟨rfl, h1⟩
    go_wp2_with fail
    refine (ref_Long_no _ _ hl).mono ?_
    rintro e w' ⟨rfl, rfl⟩
    go_wp2_with fail
    refine (ref_Levels_cells _ _ hs).mono ?_
    rintro e w2 ⟨g, cap, rfl, hg1, hg2, hc, h2⟩
    have B2 := below_step h1 h2
    have HC := Lib.hid hc
    clear hc h1 h2
    go_wp2_with fail
    refine (topic_Topic _ _).mono ?_
    rintro e w' ⟨rfl, rfl⟩
    go_wp2_with fail
    refine (ref_Topic _ _ hs).mono ?_
    rintro e w' ⟨rfl, rfl⟩
    go_wp2_with fail
    refine (topic_Filter _ _).mono ?_
    rintro e w3 ⟨rfl, h3⟩
    go_wp2_with fail
    refine (ref_Filter _ _ hs).mono ?_
    rintro e w4 ⟨rfl, h4⟩
    go_wp2_with fail
    refine (topic_Wild _ _ hs).mono ?_
    rintro e w5 ⟨rfl, h5⟩
    go_wp2_with fail
    refine (ref_Wild _ _ hs).mono ?_
    rintro e w6 ⟨rfl, h6⟩
    go_wp2_with fail
    refine (topic_Depth _ _ hs).mono ?_
    rintro e w' ⟨rfl, rfl⟩
    go_wp2_with fail
    refine (topic_Levels_cells _ _ hs).mono ?_
    rintro e w7 ⟨g', cap', rfl, hg1', hg2', hc', h7⟩
    have b37 := below_step (below_step (below_step (below_step h3 h4) h5) h6) h7
    have HC2 : Hid (∀ (i : Nat) x, (lv s.data.toList)[i]? = some x → w7.cell? ⟨g, i, none⟩ = some (.string ⟨x.toArray⟩)) := fun i x hx => (b37.cell (p := ⟨g, i, none⟩) hg2).trans (HC.out i x hx)
    have HC3 := Lib.hid hc'
    clear hc'
    go_wp2_with fail
    refine (ref_Texts _ _ _ _ _ _ _ hll hll HC3.out HC2.out).mono ?_
    rintro e w8 ⟨rfl, n, rfl⟩
    go_wp2
    go_ret
    refine ⟨?_, below_draws (below_step B2 b37) n⟩
    simp
  · go_enter Try.func3, Try.ntmps3
    go_wp2_with fail
    refine (awake1 _).mono ?_
    rintro e w1 ⟨rfl, h1⟩
    go_wp2_with fail
    refine (ref_Long_yes _ _ (by omega)).mono ?_
    rintro e w' ⟨rfl, rfl⟩
    go_wp2
    go_ret
    exact ⟨rfl, h1⟩

theorem data_cat (a b : ByteArray) : (a ++ b).data.toList = a.data.toList ++ b.data.toList := by simp
/-- What was joined, one level more. -/
theorem join_step (L : List (List UInt8)) (k : Nat) (hk : k < L.length) (h0 : 0 < k) : joinZ (L.take (k + 1)) = joinZ (L.take k) ++ 47 :: L[k] := by
  rw [List.take_succ_eq_append_getElem hk, joinZ_snoc _ _ (by intro e; rw [List.take_eq_nil_iff] at e; rcases e with e | e <;> simp_all)]
theorem join_first (L : List (List UInt8)) (hk : 0 < L.length) : joinZ (L.take (0 + 1)) = L[0] := by
  rw [List.take_succ_eq_append_getElem hk]; rfl

set_option maxRecDepth 100000 in
set_option maxHeartbeats 2000000 in
theorem joins_walk (s : ByteArray) (w : World) :
    Calls Try.prog 5 #[.string s] w fun e w' => e = .returned (.bool true) ∧ Below w.heap.size w w' := by
  by_cases hl : s.size ≤ 300
  · have hs : s.size ≤ 1048576 := by omega
    have hll : (lv s.data.toList).length ≤ 301 := by
      have h1 := lv_length s.data.toList
      have h2 := List.count_le_length (a := (47 : UInt8)) (l := s.data.toList)
      rw [← Lib.size_eq] at h2; omega
    go_enter Try.func5, Try.ntmps5
    go_wp2_with fail
    refine (awake1 _).mono ?_
    rintro e w1 ⟨rfl, h1⟩
    go_wp2_with fail
    refine (ref_Long_no _ _ hl).mono ?_
    rintro e w' ⟨rfl, rfl⟩
    go_wp2_with fail
    refine (topic_Levels_cells _ _ hs).mono ?_
    rintro e w2 ⟨g, cap, rfl, hg1, hg2, hc, h2⟩
    have B2 := below_step h1 h2
    obtain ⟨L, HL⟩ : ∃ L, Hid (lv s.data.toList = L) := ⟨_, rfl⟩
    have HJ := Lib.hid (joinZ_lv s.data.toList)
    rw [HL.out] at hc hll ⊢
    have HC := Lib.hid hc
    clear hc h1 h2
    go_wp2
    go_loop [4, 5] (fun t i => ∃ (k : Nat) (tb : ByteArray), k ≤ L.length ∧ tb.size ≤ 302 * k ∧ i = .int .i64 k ∧ t = .string tb ∧ Hid (tb.data.toList = joinZ (L.take k))) (fun _ i => L.length - (intOf i).toNat)
    case atStart => exact ⟨0, ⟨#[]⟩, Nat.zero_le _, Nat.le_refl _, rfl, rfl, rfl⟩
    case round =>
      obtain ⟨k, tb, hk, htb, rfl, rfl, H⟩ := hrel
      by_cases hlt : k < L.length
      · obtain ⟨x, HX⟩ : ∃ x, Hid (L[k]? = some x) := ⟨L[k], List.getElem?_eq_getElem hlt⟩
        have HXE := Lib.hid (show L[k] = x by have := HX.out; rw [List.getElem?_eq_getElem hlt] at this; injection this)
        have hcx := HC.out k x HX.out
        have hxl : x.length ≤ 300 := by
          have h1 := lv_mem_le s.data.toList x (by rw [HL.out]; exact List.mem_of_getElem? HX.out)
          rw [← Lib.size_eq] at h1; omega
        have hk4 : decide ((k : Int) < 400) = true := by simp; omega
        by_cases h0 : 0 < k
        · go_wp2
          go_round
          case rel =>
            refine ⟨k + 1, _, by omega, ?_, by go_num, rfl, ?_⟩
            · rw [ByteArray.size_append, ByteArray.size_append]
              show tb.size + 1 + x.toArray.size ≤ _
              simp; omega
            · show (tb ++ ⟨#[47]⟩ ++ ⟨x.toArray⟩ : ByteArray).data.toList = _
              rw [data_cat, data_cat, H.out, join_step L k hlt h0, HXE.out]; simp
          case measure => simp [intOf]; omega
        · obtain rfl : k = 0 := by omega
          go_wp2
          go_round
          case rel =>
            refine ⟨0 + 1, _, by omega, ?_, by go_num, rfl, ?_⟩
            · rw [ByteArray.size_append]
              show tb.size + x.toArray.size ≤ _
              simp; omega
            · show (tb ++ ⟨x.toArray⟩ : ByteArray).data.toList = _
              rw [data_cat, H.out, join_first L hlt, HXE.out]; rfl
          case measure => simp [intOf]; omega
      · have htb2 : tb = s := by
          rw [← Lib.mk_data tb, H.out, List.take_of_length_le (by omega), ← HL.out, HJ.out, Lib.mk_data]
        clear htb H HC
        subst htb2
        cases ht : topicZ tb.data.toList
        · have HT := Lib.hid ht
          clear ht
          go_wp2_with fail
          refine (topic_Topic _ _).mono ?_
          rintro e w' ⟨rfl, rfl⟩
          rw [HT.out]
          go_wp2
          go_ret
          exact ⟨rfl, B2⟩
        · have HT := Lib.hid ht
          have HF := Lib.hid (filter_of_topic _ ht)
          have HW := Lib.hid (topic_not_wild _ ht)
          clear ht
          go_wp2_with fail
          refine (topic_Topic _ _).mono ?_
          rintro e w' ⟨rfl, rfl⟩
          rw [HT.out]
          go_wp2_with fail
          refine (topic_Filter _ _).mono ?_
          rintro e w3 ⟨rfl, h3⟩
          rw [HF.out]
          go_wp2_with fail
          refine (topic_Wild _ _ hs).mono ?_
          rintro e w4 ⟨rfl, h4⟩
          rw [HW.out]
          go_wp2
          go_ret
          exact ⟨rfl, below_step (below_step B2 h3) h4⟩
  · go_enter Try.func5, Try.ntmps5
    go_wp2_with fail
    refine (awake1 _).mono ?_
    rintro e w1 ⟨rfl, h1⟩
    go_wp2_with fail
    refine (ref_Long_yes _ _ (by omega)).mono ?_
    rintro e w' ⟨rfl, rfl⟩
    go_wp2
    go_ret
    exact ⟨rfl, h1⟩

end Go.Proofs.Ytlochonkllhmgaa
