/- SetOrder's walk. -/
import Derived.Test.YtlfehhegkpoojaaLaw3
namespace Go.Proofs.Ytlfehhegkpoojaa
open Go.RowKit Go.Shelf

theorem has_yes (v : Value) (L : List Int) (x : Int) (w : World) (h : SetIn w v L) (hbig : L.length ≤ 1000000) (hx : x ∈ L) :
    Calls Try.prog 15 #[v, .int .i64 x] w fun e w' => e = .returned (.bool true) ∧ Below w.heap.size w w' :=
  (set_Has v L x w h hbig).mono fun e w' h => by rw [decide_eq_true hx] at h; exact h
theorem has_no (v : Value) (L : List Int) (x : Int) (w : World) (h : SetIn w v L) (hbig : L.length ≤ 1000000) (hx : x ∉ L) :
    Calls Try.prog 15 #[v, .int .i64 x] w fun e w' => e = .returned (.bool false) ∧ Below w.heap.size w w' :=
  (set_Has v L x w h hbig).mono fun e w' h => by rw [decide_eq_false hx] at h; exact h
theorem ArgIn.at {W : World} {a : Option Addr} {c : Nat} {L : List Int} (h : ArgIn W (.slice a L.length c) L) (k : Nat) (hk : k < L.length) : ∃ b off, a = some ⟨b, off, none⟩ ∧ b < W.heap.size ∧ W.cell? ⟨b, off + k, none⟩ = some (.int .i64 (L.getD k 0)) := by
  obtain ⟨a', cap, hv, h⟩ := h
  cases hv
  obtain ⟨b, off, ha, hb, hc⟩ := h (fun e => by rw [e] at hk; simp at hk)
  exact ⟨b, off, ha, hb, cells_num hc k hk⟩
theorem SetIn.form {W : World} {v : Value} {L : List Int} (h : SetIn W v L) : ∃ a n c, v = .agg #[.slice a n c] := by
  obtain ⟨⟨s, rfl, hs⟩, _⟩ := h
  rcases hs.2 with ⟨rfl, _⟩ | ⟨b, off, cap, rfl, _⟩
  · exact ⟨_, _, _, rfl⟩
  · exact ⟨_, _, _, rfl⟩

set_option maxRecDepth 100000 in
set_option maxHeartbeats 4000000 in
theorem order_any (v : Value) (L : List Int) (w : World) (h : ArgIn w v L) :
    Calls Try.prog 5 #[v] w fun e w' => e = .returned (.bool true) ∧ Below w.heap.size w w' := by
  obtain ⟨a, cap, rfl, ha⟩ := h
  have HA : Hid (ArgIn w (.slice a L.length cap) L) := (show ArgIn _ _ _ from ⟨a, cap, rfl, ha⟩)
  clear ha
  by_cases hl : 300 < L.length
  · go_enter Try.func5, Try.ntmps5
    go_wp2_with fail
    refine (awake3 _).mono ?_
    rintro e w1 ⟨rfl, hB⟩
    go_wp2
    go_ret
    exact ⟨rfl, hB⟩
  · obtain ⟨hup, hmem⟩ := ofZ_facts L
    have hlen := ofZ_length L
    generalize hG : ofZ L = G at hup hmem hlen
    have HG := Lib.hid hG
    have UP := Lib.hid hup
    have MEM := Lib.hid hmem
    clear hG hup hmem
    go_enter Try.func5, Try.ntmps5
    go_wp2_with fail
    refine (awake3 _).mono ?_
    rintro e w1 ⟨rfl, hB1⟩
    go_wp2_with fail
    refine (set_Of _ L _ (HA.out.below hB1) (by omega)).mono ?_
    rintro e w2 ⟨r, rfl, hr, hB2⟩
    rw [HG.out] at hr
    obtain ⟨a0, n0, c0, rfl⟩ := hr.form
    have B2 := Lib.hid (below_step hB1 hB2)
    have R2 := Lib.hid hr
    clear hB1 hB2 hr
    go_wp2_with fail
    have bx := Boxed.new w2 26 (.slice a0 n0 c0)
    have hb3 : Below w2.heap.size w2 (w2.alloc (.cells #[.slice a0 n0 c0] 26)) := (Below.refl _ _).alloc (Nat.le_refl _) _
    have B3 := Lib.hid (below_step B2.out hb3)
    have R3 := Lib.hid (R2.out.below hb3)
    have hz3 : (w2.alloc (.cells #[.slice a0 n0 c0] 26)).heap.size = w2.heap.size + 1 := by simp
    generalize w2.alloc (.cells #[.slice a0 n0 c0] 26) = w3 at bx hb3 B3 R3 hz3 ⊢
    refine (law_list _ G _ R3.out (by omega)).mono ?_
    rintro e w4 ⟨g, rfl, hg, hB4⟩
    have bx4 := boxed_below bx hB4 (by omega)
    obtain ⟨ga, gc, rfl, hgf⟩ := hg.form
    have B4 := Lib.hid (below_step B3.out hB4)
    have R4 := Lib.hid (R3.out.below hB4)
    have GF := Lib.hid hgf
    have hsz := B4.out.size
    have hz4 := hB4.size
    clear hb3 hB4 hg hgf bx
    go_wp2
    go_loopw [5] (fun i wr => ∃ (k m : Nat), 1 ≤ k ∧ i = .int .i64 k ∧ wr = w4.drewN m) (fun i _ => G.length - (intOf i).toNat)
    case atStart => exact ⟨1, 0, Nat.le_refl _, rfl, rfl⟩
    case round =>
      obtain ⟨k, m, hk, rfl, rfl⟩ := hrel
      by_cases hlt : k < G.length
      · obtain ⟨b, off, rfl, hb, hx⟩ := GF.out k hlt
        obtain ⟨b', off', e', _, hy⟩ := GF.out (k - 1) (by omega)
        cases e'
        have hlt2 : G.getD (k - 1) 0 < G.getD k 0 := by
          rw [getD_at hlt, getD_at (show k - 1 < G.length by omega)]
          exact List.pairwise_iff_getElem.1 UP.out (k - 1) k (by omega) hlt (by omega)
        generalize G.getD k 0 = x at hx hlt2
        generalize G.getD (k - 1) 0 = y at hy hlt2
        have hn : ¬ x ≤ y := by omega
        have q1 : IntKind.i64.wrap ((k : Int) - 1) = (k : Int) - 1 := IntWalk.i64_in _ (by omega)
        have q2 : ((k : Int) - 1).toNat = k - 1 := by omega
        have q3 : (0 : Int) ≤ (k : Int) - 1 := by omega
        have q4 : (k : Int) - 1 < (G.length : Int) := by omega
        go_wp2
        go_region
        go_wp2
        go_roundw
        case rel => exact ⟨k + 1, m + 1, by omega, by go_num, rfl⟩
        case measure => simp [intOf]; omega
      · have hBm : Below w4.heap.size w4 (w4.drewN m) := below_draws (Below.refl _ _) m
        generalize w4.drewN m = w5 at hBm ⊢
        go_wp2
        go_loopw [6] (fun i wr => ∃ k : Nat, k ≤ L.length ∧ i = .int .i64 k ∧ Below w4.heap.size w4 wr) (fun i _ => L.length - (intOf i).toNat)
        case atStart => exact ⟨0, Nat.zero_le _, rfl, hBm⟩
        case round =>
          obtain ⟨k2, hk2, rfl, hBr⟩ := hrel
          have hszr := hBr.size
          have bxr := (boxed_below bx4 hBr (by omega)).cell
          have RR := Lib.hid ((R4.out.below hBr).below ((Below.refl wr.heap.size wr).drew))
          have BR := Lib.hid (below_step B4.out hBr)
          by_cases hlt2 : k2 < L.length
          · obtain ⟨b, off, rfl, hb, hx⟩ := (HA.out.below BR.out).at k2 hlt2
            have hin : L.getD k2 0 ∈ G := (MEM.out _).2 (by rw [getD_at hlt2]; exact List.getElem_mem hlt2)
            generalize L.getD k2 0 = x at hx hin
            go_wp2_with fail
            go_region_with (go_at_call 15; refine (has_yes _ G x _ RR.out (by omega) hin).mono ?_; rintro e w9 ⟨rfl, hB9⟩)
            all_goals
              have B9 := Lib.hid (below_step hBr (below_step ((Below.refl wr.heap.size wr).drew) hB9))
              go_wp2
              go_roundw
              case rel => exact ⟨k2 + 1, by omega, by go_num, B9.out⟩
              case measure => simp [intOf]; omega
          · have RL := Lib.hid (R4.out.below hBr)
            have hle : G.length ≤ L.length := hlen
            go_wp2_with (go_at_call 14; refine (set_Len _ G _ RL.out).mono ?_; rintro e w9 ⟨rfl, hB9⟩)
            go_ret
            exact ⟨rfl, below_step BR.out hB9⟩

end Go.Proofs.Ytlfehhegkpoojaa
