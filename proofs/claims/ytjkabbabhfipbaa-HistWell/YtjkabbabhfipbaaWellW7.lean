/- Layer 7: HistWell's walk. -/
import Derived.Test.YtjkabbabhfipbaaWell7
import Derived.BigQuiet
namespace Go.Proofs.Ytjkabbabhfipbaa
open Go.RowKit

theorem endL_set {L : List CallZ} {i : Nat} {c : CallZ} {n : Nat} (h : L.length ≤ n) : (L.set i c).length ≤ n := by rw [List.length_set]; exact h
set_option maxHeartbeats 8000000 in
set_option maxRecDepth 100000 in
theorem law_well {w : World} {a : Option Addr} {cap : Nat} {B : List Int} (hB : ListIn (Value.int .u8) w a B) (hu : ∀ x ∈ B, 0 ≤ x ∧ x < 256) :
    Calls Try.prog 5 #[.slice a B.length cap] w fun e w' => e = .returned (.bool true) ∧ Below w.heap.size w w' := by
  have H := Lib.hid hB
  have HU := Lib.hid hu
  clear hB hu
  go_enter Try.func5, Try.ntmps5
  go_wp2_with fail
  refine (law_awake w).mono ?_
  rintro e wA ⟨rfl, hbA⟩
  by_cases hbig : 300 < B.length
  · go_wp2
    go_ret
    exact ⟨rfl, hbA⟩
  have hbig' : B.length ≤ 300 := by omega
  go_wp2_with fail
  refine (hist_New wA).mono ?_
  rintro e w1 ⟨rfl, rfl⟩
  have D0 := Lib.hid (WStand.start hbA)
  go_wp2_with fail
  generalize ((wA.alloc (.cells #[.slice none 0 0, .map none, .int .i64 0] 59)).alloc (.cells #[.int .i64 0, .int .i64 0, .int .i64 0, .int .i64 0] 55)) = w2 at D0 ⊢
  generalize wA.heap.size = Bl at D0 ⊢
  obtain ⟨Bo, hBo⟩ : ∃ Bo, Bl + 1 = Bo := ⟨_, rfl⟩
  rw [hBo] at D0 ⊢
  clear hBo hbA
  go_loopw [5] (fun i wr => ∃ (k : Nat) (L : List CallZ) (now : Nat) (O : Nat → Int) (cv mv : Value), k ≤ B.length ∧ i = .int .i64 k ∧ L.length ≤ k ∧ now ≤ k ∧ Hid (WStand w wr Bl Bo 0 L now O cv mv)) (fun i _ => B.length - (intOf i).toNat)
  case atStart => exact ⟨0, [], 0, _, _, _, Nat.zero_le _, rfl, Nat.le_refl _, Nat.le_refl _, D0⟩
  case round =>
    obtain ⟨k, L, now, O, cv, mv, hk, rfl, hLk, hnk, D2⟩ := hrel
    by_cases hlt : k < B.length
    · obtain ⟨b, off, rfl, hb, hc0⟩ := H.out.at k hlt
      have hc := (D2.out.low.cell (p := ⟨b, off + k, none⟩) hb).trans hc0
      obtain ⟨hx0, hx1⟩ := HU.out B[k] (List.getElem_mem hlt)
      generalize B[k] = x at hc hx0 hx1
      clear hc0
      obtain ⟨t, hxt, ht⟩ : ∃ t : Nat, x.tmod 4 = (t : Int) ∧ t < 4 := ⟨(x.tmod 4).toNat, by
        have := Int.tmod_nonneg 4 hx0
        omega, by
        have := Int.tmod_nonneg 4 hx0
        have := Int.tmod_lt_of_pos x (show (0 : Int) < 4 by decide)
        omega⟩
      have hwx : IntKind.i64.wrap x = x := by rw [IntKind.wrap_i64]; omega
      have ht1 : (0 : Int) ≤ (t : Int) := by omega
      have ht2 : (t : Int) < 4 := by omega
      have o0 := D2.out.arr.at (arr_at O ht)
      rcases D2.out.op t (Nat.zero_le _) ht with ⟨hO, hall⟩ | ⟨i, c, hO, hci, hth, hto, h3⟩
      · rw [hO] at o0
        have HA := Lib.hid hall
        clear hO hall
        go_wp2_with fail
        refine (log_Begin (o := { (default : OpZ) with k := x }) D2.out.log D2.out.low.size (by omega) (by omega) (t : Int) (small_wf (by omega) (by omega))).mono ?_
        intro e w3 hp
        obtain rfl := hp.told
        obtain ⟨b3, cv3, mv3, h3⟩ := D2.out.begun ht HA.out hp
        have o3 := b3.at (arr_at O ht)
        have f3 := b3.frozen t
        have D3 := Lib.hid h3
        clear hp b3 h3
        go_wp2
        go_roundw
        case rel => exact ⟨k + 1, _, _, _, _, _, by omega, by go_num, by simp; omega, by omega, D3⟩
        case measure => simp [intOf]; omega
      · rw [hO] at o0
        have HA := Lib.hid (And.intro hci (And.intro hth (And.intro hto h3)))
        have hi1 : ((i : Int) + 1 == 0) = false := by simp; omega
        have hil : i < L.length := (List.getElem?_eq_some_iff.1 hci).1
        clear hO hci hth hto h3
        go_wp2_with fail
        refine (log_End_yes (a := { (default : AnZ) with a := (k : Int) }) D2.out.log i HA.out.1 HA.out.2.2.1 (by omega) (by omega)).mono ?_
        intro e w3 hp
        obtain rfl := hp.told
        obtain ⟨b3, h3⟩ := D2.out.over ht HA.out.1 HA.out.2.1 HA.out.2.2.1 HA.out.2.2.2 hp
        have o3 := b3.at (arr_at O ht)
        have f3 := b3.frozen t
        have D3 := Lib.hid h3
        clear hp b3 h3
        go_wp2
        go_roundw
        case rel => exact ⟨k + 1, _, _, _, _, _, by omega, by go_num, by simp; omega, by omega, D3⟩
        case measure => simp [intOf]; omega
    · obtain rfl : k = B.length := by omega
      clear hlt hk D0
      go_wp2
      go_loopw [7] (fun tv wq => ∃ (s : Nat) (L : List CallZ) (now : Nat), s ≤ 4 ∧ tv = .int .i64 s ∧ L.length ≤ 300 ∧ now ≤ 300 + s ∧ Hid (WStand w wq Bl Bo s L now O cv mv)) (fun tv _ => 4 - (intOf tv).toNat)
      case atStart => exact ⟨0, L, now, Nat.zero_le _, rfl, by omega, by omega, D2⟩
      case round =>
        obtain ⟨s, L, now, hs, rfl, hL3, hn3, D3⟩ := hrel
        by_cases hslt : s < 4
        · have ht1 : (0 : Int) ≤ (s : Int) := by omega
          have ht2 : (s : Int) < 4 := by omega
          have o0 := D3.out.arr.at (arr_at O hslt)
          rcases D3.out.op s (Nat.le_refl _) hslt with ⟨hO, hall⟩ | ⟨i, c, hO, hci, hth, hto, h3⟩
          · rw [hO] at o0
            have D4 := Lib.hid (D3.out.idle hall)
            clear hO hall
            go_wp2
            go_roundw
            case rel => exact ⟨s + 1, L, now, by omega, by go_num, hL3, by omega, D4⟩
            case measure => simp [intOf]; omega
          · rw [hO] at o0
            have HA := Lib.hid (And.intro hci (And.intro hth (And.intro hto h3)))
            have hi1 : ((i : Int) + 1 != 0) = true := by simp; omega
            have hil : i < L.length := (List.getElem?_eq_some_iff.1 hci).1
            clear hO hci hth hto h3
            go_wp2_with fail
            refine (log_End_yes (a := default) D3.out.log i HA.out.1 HA.out.2.2.1 (by omega) (by omega)).mono ?_
            intro e w4 hp
            obtain rfl := hp.told
            have D4 := Lib.hid (D3.out.last HA.out.1 HA.out.2.1 HA.out.2.2.1 HA.out.2.2.2 hp)
            clear hp
            go_wp2
            go_roundw
            case rel => exact ⟨s + 1, _, _, by omega, by go_num, endL_set hL3, by omega, D4⟩
            case measure => simp [intOf]; omega
        · obtain rfl : s = 4 := by omega
          have HALL := Lib.hid D3.out.all
          have AO := Lib.hid (show anyOpen L = false by
            unfold anyOpen
            rw [List.any_eq_false]
            intro c hc
            have := HALL.out c hc
            simpa using this)
          have RT := Lib.hid (D3.out.wi.right HALL.out)
          have WF := Lib.hid (D3.out.wi.wf (by omega) (by omega))
          go_wp2_with fail
          refine (log_Calls D3.out.log (by omega)).mono ?_
          rw [AO.out]
          rintro e w4 ⟨r, rfl, hr4, hb4⟩
          have CI := Lib.hid (CallsIn.own hr4 rfl)
          have LO := Lib.hid (below_step D3.out.low hb4)
          clear hr4 hb4
          go_wp2_with fail
          refine (log_Calls_nil w4).mono ?_
          rintro e w5 ⟨rfl, rfl⟩
          go_wp2_with fail
          refine (hist_Right CI.out WF.out (by omega)).mono ?_
          rw [right_same L (by omega), RT.out]
          rintro e w6 ⟨rfl, hb6⟩
          have CI6 := Lib.hid (CI.out.below hb6)
          have LO6 := Lib.hid (below_step LO.out hb6)
          clear CI LO hb6
          go_wp2_with fail
          refine (ref_Right CI6.out (by omega)).mono ?_
          rw [RT.out]
          rintro e w7 ⟨rfl, n7, rfl⟩
          go_wp2_with fail
          refine (log_Begin_nil 1 default _).mono ?_
          rintro e w8 ⟨rfl, rfl⟩
          go_wp2_with fail
          refine (log_End_nil 1 default _).mono ?_
          rintro e w9 ⟨rfl, rfl⟩
          go_wp2
          go_ret
          refine ⟨rfl, ((below_draws LO6.out n7).alloc ?_ _).alloc ?_ _⟩
          · exact LO6.out.size
          · have := LO6.out.size
            simp
            omega

end Go.Proofs.Ytjkabbabhfipbaa
