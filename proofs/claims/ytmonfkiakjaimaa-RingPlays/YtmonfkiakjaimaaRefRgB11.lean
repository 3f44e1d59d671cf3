/- Layer 11: the document's ring: Get, Sequence. -/
import Derived.Test.YtmonfkiakjaimaaRefRg11
namespace Go.Proofs.Ytmonfkiakjaimaa
open Go.RowKit

theorem own_head {w : World} {lo : Nat} {lv : Value} {v : Int} {L : List Int} (h : w.ownsRow lo 3 1 lv (v :: L).length ((v :: L).map numV)) : ∃ g cap, lv = .slice (some ⟨g, 0, none⟩) (L.length + 1) cap ∧ L.length + 1 ≤ cap ∧ w.cell? ⟨g, 0, none⟩ = some (.int .i64 v) ∧ NumsIn w (.slice (if cap = 1 then some ⟨g, 0, none⟩ else some ⟨g, 1, none⟩) L.length (cap - 1)) L := by
  rcases h.2 with ⟨_, e⟩ | ⟨g, cap, cur, e, h1, h2, h3, h4, h5, h6⟩
  · simp at e
  · have hb : Blk 3 w g cur.toList := by show w.heap[g]? = _; simpa using h2
    have hc : CellsAt w g 0 ((v :: L).map numV) := by
      rw [← h6]
      exact (cellsAt_of_heap (by simpa using h2)).take _
    refine ⟨g, cap, e, by simpa using h3, ?_, ?_⟩
    · have := hc 0 (numV v) rfl
      simpa using this
    · simp at h3
      split
      · obtain rfl : L = [] := List.eq_nil_of_length_eq_zero (by omega)
        exact ⟨by simp, .inr ⟨g, 0, cap - 1, rfl, by simp, hb.lt, fun j u hu => by simp at hu⟩⟩
      · refine ⟨by simp, .inr ⟨g, 1, cap - 1, rfl, by omega, hb.lt, ?_⟩⟩
        have := hc.drop 1
        simpa using this
section
variable {w w' : World} {lo X : Nat} {lv : Value} {x : Rg}
theorem ref_Get_no11 (h : RrIs w lo X lv x) (hL : x.L = []) : Calls Try.prog 14 #[.pointer (some ⟨X, 0, none⟩)] w fun e w' =>
    e = .returned (.tuple #[.int .i64 0, .bool false]) ∧ w = w' := by
  obtain ⟨d0, _⟩ := h.box
  obtain ⟨a0, c0, e0⟩ := own_form h.row
  rw [e0, hL] at d0
  simp only [List.length_nil] at d0
  clear h hL e0
  go_enter Try.func14, Try.ntmps14
  go_wp2
  go_ret2
  exact ⟨rfl, rfl⟩
set_option maxHeartbeats 1000000 in
theorem ref_Get_yes11 (h : RrIs w lo X lv x) (hlo : lo ≤ w.heap.size) (hg : x.g ≤ 100000) {v : Int} {L : List Int} (hL : x.L = v :: L) (hl : L.length ≤ 1024) : Calls Try.prog 14 #[.pointer (some ⟨X, 0, none⟩)] w fun e w' =>
    e = .returned (.tuple #[.int .i64 v, .bool true]) ∧ (∃ lv', RrIs w' lo X lv' (gotZ x) ∧ RrNew w.heap.size X lv lv') ∧ Only (RrBlk X lv) w w' := by
  obtain ⟨d0, d1, d2, d3, d4, f⟩ := h.box
  have hr := h.row
  rw [hL] at hr
  obtain ⟨g, cap, ev, hcap, k0, htail⟩ := own_head hr
  rw [ev] at d0
  have EV := Lib.hid ev
  obtain ⟨va, w5, hrun, hown, hb5⟩ := run_append_copy w 22 (.slice (if cap = 1 then some ⟨g, 0, none⟩ else some ⟨g, 1, none⟩) L.length (cap - 1)) L htail (by omega)
  obtain ⟨a5, n5, rfl⟩ := own_form hown
  obtain ⟨⟨k5, f5⟩, h3, n3, o3⟩ := h.putRow (Only.of_below hb5 _) (own_lower hown hlo) (fun k hk => .inr (own_base3 hown k hk))
  rw [ev] at k5
  obtain ⟨z1, z2⟩ := h3.putG (x.g + 1) (q := (x.g : Int) + 1) (by omega)
  have c5 := h3.box.2.2.1
  have g5 := h3.box.2.2.2.2.2 2
  have hp : (gotZ x).p = x.p := by simp [Rg.p, gotZ, hL]; omega
  have hpp : (gotZ x).L = L := by simp [gotZ, hL]
  have Z : Hid ((∃ lv', RrIs ((w5.setCell ⟨X, 0, none⟩ (.slice a5 L.length n5)).setCell ⟨X, 2, none⟩ (.int .i64 ((x.g : Int) + 1))) lo X lv' (gotZ x) ∧ RrNew w.heap.size X lv lv') ∧ Only (RrBlk X lv) w ((w5.setCell ⟨X, 0, none⟩ (.slice a5 L.length n5)).setCell ⟨X, 2, none⟩ (.int .i64 ((x.g : Int) + 1)))) := by
    refine Lib.hid ⟨⟨_, ?_, n3⟩, o3.step z2 (fun i hi e => (n3 i e).resolve_right (by omega))⟩
    show RrR _ _ _ _ (gotZ x).L (gotZ x).p (x.g + 1) x.d x.n
    rw [hp, hpp]
    exact z1
  have hg2 : (x.g : Int) ≤ 100000 := by omega
  have hm2 : (L.length : Int) ≤ 1024 := by omega
  generalize x.g = gg at *
  generalize L.length = m at *
  have hm0 : (0 : Int) < (m : Int) + 1 := by omega
  have HR := Lib.hid hrun
  have hX := h.blk.lt
  clear h hr htail hrun hown hb5 h3 n3 o3 z1 z2 hL hp hpp d1 d2 d3 d4 f ev hlo hg
  go_enter Try.func14, Try.ntmps14
  go_upto_region 5 with (at_builtin; refine wpList_append_run rfl _ _ 22 rfl _ _ _ _ rfl rfl HR.out ?_)
  generalize w5.setCell ⟨X, 0, none⟩ (.slice a5 m n5) = w6 at *
  clear d0 k0 k5 f5 HR
  go_wp2
  all_goals
    go_ret2
    exact ⟨rfl, Z.out⟩
theorem div_int {p i n : Nat} (hi : i < p) : ((p : Int) - (i : Int) - 1).tdiv (n : Int) = (((p - i - 1) / n : Nat) : Int) := by
  rw [show (p : Int) - (i : Int) - 1 = ((p - i - 1 : Nat) : Int) by omega, ← Int.ofNat_tdiv]
set_option maxHeartbeats 1000000 in
theorem ref_Sequence11 (h : RrIs w lo X lv x) (ok : RgOk x) (hg : x.g ≤ 100000) (k : Int) : Calls Try.prog 18 #[.pointer (some ⟨X, 0, none⟩), .int .i64 k] w fun e w' =>
    e = .returned (.int .i64 (seqZ x k)) ∧ ∃ n, w' = w.drewN n := by
  obtain ⟨_, d1, d2, _, d4, _⟩ := h.box
  have hn := ok.most
  have hn1 := ok.one
  have hfit := ok.fit
  have hp : x.p ≤ 200000 := by unfold Rg.p; omega
  have hgp : x.g ≤ x.p := by unfold Rg.p; omega
  by_cases h0 : k < 0
  · have hs : seqZ x k = -1 := by unfold seqZ; rw [if_neg (by omega)]
    rw [hs]
    clear h ok
    go_enter Try.func18, Try.ntmps18
    go_wp2
    go_ret
    exact ⟨by simp, 0, rfl⟩
  · by_cases h1 : k < x.n
    · obtain ⟨i, rfl⟩ : ∃ i : Nat, k = (i : Int) := ⟨k.toNat, by omega⟩
      have hi : i < x.n := by omega
      have hs : seqZ x (i : Int) = (slotZ x i).2 := by unfold seqZ; rw [if_pos ⟨by omega, by omega⟩]; rfl
      rw [hs, slot_seq hi]
      generalize x.p = p at *
      generalize x.g = g at *
      generalize x.n = n at *
      have hn2 : (n : Int) ≤ 1024 := by omega
      have hp2 : (p : Int) ≤ 200000 := by omega
      have hg2 : (g : Int) ≤ 100000 := by omega
      have hn0 : ¬ n = 0 := by omega
      clear h ok hs hfit
      by_cases kg : i < g
      · have kp : i < p := by omega
        have q1 := div_int (n := n) kp
        have q2 := div_int (n := n) kg
        rw [← cnt_more hi kg, ← cnt_more hi kp]
        have ha : (p - i - 1) / n ≤ p - i - 1 := Nat.div_le_self _ _
        have hb : (g - i - 1) / n ≤ g - i - 1 := Nat.div_le_self _ _
        have hM : ((g - i - 1) / n + 1) * n ≤ 200000 := by
          have := Nat.div_mul_le_self (g - i - 1) n
          rw [Nat.add_mul]
          omega
        have eM : (((g - i - 1) / n : Nat) : Int) * (n : Int) + (n : Int) = (((((g - i - 1) / n + 1) * n : Nat)) : Int) := by rw [Nat.add_mul]; omega
        generalize (p - i - 1) / n = a at *
        generalize (g - i - 1) / n = b at *
        have e1 : IntKind.i64.wrap (((b : Int) + 1) * (n : Int)) = (((b + 1) * n : Nat) : Int) := by
          have : ((b : Int) + 1) * (n : Int) = (((b + 1) * n : Nat) : Int) := by rw [Int.natCast_mul]; rfl
          rw [this]
          exact IntWalk.i64_in _ (by omega)
        have e2 : (((b + 1 : Nat)) : Int) * (n : Int) = (((b + 1) * n : Nat) : Int) := by rw [Int.natCast_mul]
        rw [e2]
        generalize (b + 1) * n = M at *
        have hM2 : (M : Int) ≤ 200000 := by omega
        have ha2 : (a : Int) ≤ 200000 := by omega
        have hb2 : (b : Int) ≤ 200000 := by omega
        clear e2 eM ha hb hM
        by_cases hab : b < a
        · rw [if_pos (by omega)]
          have hab2 : decide ((b : Int) < (a : Int)) = true := by simp; omega
          go_enter Try.func18, Try.ntmps18
          go_upto_region 5 with fail
          go_quiet (fail)
          go_upto_region 7 with fail
          go_quiet (fail)
          go_wp2
          go_ret
          exact ⟨by first | rfl | simp, _, by first | rfl | rw [World.drewN_drewN]⟩
        · rw [if_neg (by omega)]
          have hab2 : decide ((b : Int) < (a : Int)) = false := by simp; omega
          go_enter Try.func18, Try.ntmps18
          go_upto_region 5 with fail
          go_quiet (fail)
          go_upto_region 7 with fail
          go_quiet (fail)
          go_wp2
          go_ret
          exact ⟨by first | rfl | simp, _, by first | rfl | rw [World.drewN_drewN]⟩
      · rw [cnt_none hi kg]
        by_cases kp : i < p
        · have q1 := div_int (n := n) kp
          rw [← cnt_more hi kp]
          have ha : (p - i - 1) / n ≤ p - i - 1 := Nat.div_le_self _ _
          generalize (p - i - 1) / n = a at *
          have ha2 : (a : Int) ≤ 200000 := by omega
          rw [if_pos (by omega)]
          go_enter Try.func18, Try.ntmps18
          go_upto_region 5 with fail
          go_quiet (fail)
          go_wp2
          go_ret
          exact ⟨by first | rfl | simp, _, rfl⟩
        · rw [cnt_none hi kp, if_neg (by omega)]
          go_enter Try.func18, Try.ntmps18
          go_wp2
          go_ret
          exact ⟨by first | rfl | simp, 0, rfl⟩
    · have hs : seqZ x k = -1 := by unfold seqZ; rw [if_neg (by omega)]
      have hd : decide ((x.n : Int) ≤ k) = true := by simp; omega
      rw [hs]
      generalize x.n = n at *
      clear h hs ok
      go_enter Try.func18, Try.ntmps18
      go_wp2
      go_ret
      exact ⟨by simp, 0, rfl⟩
end

end Go.Proofs.Ytmonfkiakjaimaa
