/- RingRounds' walk. -/
import Derived.Test.YtmonfkiakjaimaaRingN11
import Derived.Test.YtmonfkiakjaimaaLists
import Derived.Deep.CutBlock
import Derived.Deep.CutRange
namespace Go.Proofs.Ytmonfkiakjaimaa
open Go.RowKit

def seqL (g k : Nat) : List Int := (List.range k).map fun (i : Nat) => (g : Int) + (i : Int)
theorem seqL_len (g k : Nat) : (seqL g k).length = k := by simp [seqL]
theorem seqL_succ (g k : Nat) : seqL g (k + 1) = seqL g k ++ [(g : Int) + (k : Int)] := by simp [seqL, List.range_succ]
theorem seqL_drop {g m j : Nat} (h : j < m) : (seqL g m).drop j = ((g : Int) + (j : Int)) :: (seqL g m).drop (j + 1) := by
  rw [List.drop_eq_getElem_cons (by rw [seqL_len]; exact h)]
  simp [seqL]
/-- A ring above what lay there. -/
structure RM (w1 w : World) (B S : Nat) (x : Rg) : Prop where
  rg : RgIs w B S x
  below : Below w1.heap.size w1 w
  lows : w1.heap.size ≤ B ∧ w1.heap.size ≤ S
theorem RM.keep {w1 w w' : World} {B S : Nat} {x : Rg} (h : RM w1 w B S x) (hb : Below w.heap.size w w') : RM w1 w' B S x := ⟨h.rg.below hb, h.below.trans (hb.mono h.below.size), h.lows⟩
theorem RM.turn {w1 w w' : World} {B S : Nat} {x x' : Rg} (h : RM w1 w B S x) (h1 : RgIs w' B S x') (ho : Only (RgBlk B S) w w') : RM w1 w' B S x' :=
  ⟨h1, Only.below_step h.below.size h.below ho (fun i hi e => by rcases e with rfl | rfl <;> (have := h.lows; omega)), h.lows⟩
set_option maxRecDepth 100000 in
set_option maxHeartbeats 4000000 in
theorem rounds11 (n : Int) (hn0 : 0 ≤ n) (hn1 : n ≤ 255) (a : Option Addr) (cap : Nat) (D : List Int) (w : World) (ht : ListIn (Value.int .u8) w a D) (hD : ∀ x ∈ D, 0 ≤ x ∧ x < 256) :
    Calls Try.prog 6 #[.int .u8 n, .slice a D.length cap] w fun e w' => e = .returned (.bool true) ∧ Below w.heap.size w w' := by
  have T := Lib.hid ht
  have HD := Lib.hid hD
  clear ht hD
  by_cases hbig : 50 < D.length
  · go_enter Try.func6, Try.ntmps6
    go_wp2_with fail
    refine (awake11 w).mono ?_
    rintro e w1 ⟨rfl, hb⟩
    have B1 := Lib.hid hb
    clear hb
    go_wp2
    go_ret
    exact ⟨rfl, B1.out⟩
  have hd : decide (50 < D.length) = false := by simpa using hbig
  obtain ⟨N, hN⟩ : ∃ N, limR n = N := ⟨_, rfl⟩
  have hN1 : 1 ≤ N := by unfold limR at hN; omega
  have hN2 : N ≤ 255 := by unfold limR at hN; omega
  have HN := Lib.hid hN
  clear hN
  go_enter Try.func6, Try.ntmps6
  go_wp2_with fail
  refine (awake11 w).mono ?_
  rintro e w1 ⟨rfl, hb⟩
  have B1 := Lib.hid hb
  have T1 := Lib.hid (T.out.below hb)
  clear hb T
  go_wp2_with fail
  refine (rg_New n w1).mono ?_
  rintro e w2 ⟨rfl, h2, hb2⟩
  rw [HN.out] at h2
  obtain ⟨S, hS⟩ : ∃ S, w1.heap.size = S := ⟨_, rfl⟩
  obtain ⟨B, hB⟩ : ∃ B, w1.heap.size + 1 = B := ⟨_, rfl⟩
  have S4 : Hid (RM w1 w2 B S ⟨N, 0, 0, []⟩) := Lib.hid ⟨by rw [← hB, ← hS]; exact h2, hb2, by omega, by omega⟩
  rw [hB]
  clear h2 hb2 hS hB
  have hNi1 : (1 : Int) ≤ (N : Int) := by omega
  have hNi2 : (N : Int) ≤ 255 := by omega
  have hc1 : decide ((N : Int) < 1) = false := by simp; omega
  have hc2 : decide ((255 : Int) < (N : Int)) = false := by simp; omega
  go_wp2_with fail
  refine (rg_Cap S4.out.rg).mono ?_
  rintro e w' ⟨rfl, rfl⟩
  go_wp2_with fail
  refine (rg_Cap S4.out.rg).mono ?_
  rintro e w' ⟨rfl, rfl⟩
  go_wp2_with fail
  go_loopg [6, 7] D.length (fun gh u6 i wr => ∃ (k g d : Nat), k + gh = D.length ∧ i = .int .i64 k ∧ u6 = .int .i64 g ∧ g ≤ 255 * k ∧ d ≤ k ∧ Hid (RM w1 wr B S ⟨N, g, d, []⟩))
  case atStart => exact ⟨0, 0, 0, by omega, rfl, rfl, by omega, by omega, S4⟩
  case round =>
    obtain ⟨k, g, d, hk, rfl, rfl, hgk, hdk, ST⟩ := hrel
    have HK := Lib.hid hk
    have hk5 : k ≤ 50 := by omega
    have hgi : (g : Int) ≤ 12750 := by omega
    clear S4
    by_cases hlt : k < D.length
    · obtain ⟨b, off, rfl, hb, hx⟩ := T1.out.at k hlt
      have x0 := (ST.out.below.cell (p := ⟨b, off + k, none⟩) hb).trans hx
      have hd1 := HD.out _ (List.getElem_mem hlt)
      generalize D[k] = v at *
      obtain ⟨v, rfl⟩ : ∃ v' : Nat, v = (v' : Int) := ⟨v.toNat, by omega⟩
      have hv : (v : Int) ≤ 255 := by omega
      have hr : (v : Int).tmod ((N : Int) + 1) = ((v % (N + 1) : Nat) : Int) := by rw [show (N : Int) + 1 = ((N + 1 : Nat) : Int) by omega, ← Int.ofNat_tmod]
      have hmN : v % (N + 1) ≤ N := by have := Nat.mod_lt v (show 0 < N + 1 by omega); omega
      have hz : ¬ ((N : Int) + 1 = 0) := by omega
      generalize v % (N + 1) = m at *
      have hcap := Lib.hid fun q => (rg_Cap (ST.out.rg.drewN q)).mono fun e w' h => And.intro h.1 (show ∃ m, w' = wr.drewN m from ⟨q, h.2.symm⟩)
      clear hx hk hd1
      go_upto_region 12 with fail
      go_quiet (first | (go_at_call 10; exact hcap.out _))
      have S5 : Hid (RM w1 (wr.drewN nq) B S ⟨N, g, d, seqL g 0⟩) := Lib.hid (ST.out.keep (below_draws (Below.refl _ _) _))
      generalize wr.drewN nq = w4 at *
      clear hcap x0 hr hz
      go_wp2_with fail
      go_loopw [9] (fun i wy => ∃ j : Nat, j ≤ m ∧ i = .int .i64 j ∧ Hid (RM w1 wy B S ⟨N, g, d, seqL g j⟩)) (fun i _ => m - (intOf i).toNat)
      case atStart => exact ⟨0, Nat.zero_le _, rfl, S5⟩
      case round =>
        obtain ⟨j, hj, rfl, SJ⟩ := hrel
        clear S5
        by_cases hjm : j < m
        · go_wp2_with fail
          refine (rg_Put_yes SJ.out.rg (by simp; omega) (by simp [seqL_len]; omega) ((g : Int) + (j : Int))).mono ?_
          rintro e w5 ⟨rfl, h5, o5⟩
          have N6 : Hid (RM w1 w5 B S ⟨N, g, d, seqL g (j + 1)⟩) := Lib.hid (by rw [seqL_succ]; exact SJ.out.turn h5 o5)
          clear h5 o5
          go_wp2_with fail
          go_roundw
          case rel => exact ⟨j + 1, by omega, by go_num, N6⟩
          case measure => simp [intOf]; omega
        · have hjm' : j = m := by omega
          have SM := SJ
          rw [hjm'] at SM
          have hmi : (m : Int) ≤ 255 := by omega
          have HL := rg_Len SM.out.rg (by simp; omega)
          simp only [seqL_len] at HL
          have HLn := Lib.hid HL
          clear SJ HL hjm'
          go_upto_region 18 with fail
          go_cut [70] from 57 to 70 (fun u wx => u = .bool false ∧ ∃ d' : Nat, d' ≤ k + 1 ∧ Hid (RM w1 wx B S ⟨N, g, d', seqL g m⟩))
          case first =>
            go_wp2_with fail
            refine HLn.out.mono ?_
            rintro e w5 ⟨rfl, q, rfl⟩
            by_cases hmn : m = N
            · have hq : ((m : Int) == (N : Int)) = true := by simp; omega
              have HMN := Lib.hid hmn
              clear hmn
              go_wp2_with fail
              refine (rg_Cap (SM.out.rg.drewN q)).mono ?_
              rintro e w' ⟨rfl, rfl⟩
              go_wp2_with fail
              refine (rg_Put_no (SM.out.rg.drewN q) (by simp; omega) (by simp; omega) (by have := HMN.out; simp [seqL_len]; omega) (-5)).mono ?_
              rintro e w6 ⟨rfl, h6, o6⟩
              have N6 : Hid (RM w1 w6 B S ⟨N, g, d + 1, seqL g m⟩) := Lib.hid ((SM.out.keep (below_draws (Below.refl _ _) q)).turn h6 o6)
              clear h6 o6
              go_wp2_with fail
              go_meet
              case rel => exact ⟨rfl, d + 1, by omega, N6⟩
            · have hq : ((m : Int) == (N : Int)) = false := by simp; omega
              clear hmn
              go_wp2_with fail
              refine (rg_Cap (SM.out.rg.drewN q)).mono ?_
              rintro e w' ⟨rfl, rfl⟩
              go_wp2_with fail
              go_meet
              case rel => exact ⟨rfl, d, by omega, Lib.hid (SM.out.keep (below_draws (Below.refl _ _) q))⟩
          case rest =>
            obtain ⟨rfl, d', hd', E7⟩ := hcut
            clear SM HLn
            go_wp2_with fail
            go_loopw [10] (fun i wz => ∃ j : Nat, j ≤ m ∧ i = .int .i64 j ∧ Hid (RM w1 wz B S ⟨N, g + j, d', (seqL g m).drop j⟩)) (fun i _ => m - (intOf i).toNat)
            case atStart => exact ⟨0, Nat.zero_le _, rfl, E7⟩
            case round =>
              obtain ⟨j, hj, rfl, SJ⟩ := hrel
              clear E7
              by_cases hjm : j < m
              · go_wp2_with fail
                refine (rg_Get_yes SJ.out.rg (by simp; omega) (seqL_drop hjm)).mono ?_
                rintro e w5 ⟨rfl, h5, o5⟩
                have hg : gotZ ⟨N, g + j, d', (seqL g m).drop j⟩ = ⟨N, g + (j + 1), d', (seqL g m).drop (j + 1)⟩ := by simp [gotZ, List.tail_drop]; omega
                have N6 : Hid (RM w1 w5 B S ⟨N, g + (j + 1), d', (seqL g m).drop (j + 1)⟩) := Lib.hid (hg ▸ SJ.out.turn h5 o5)
                clear h5 o5 hg
                go_wp2_with fail
                go_roundw
                case rel => exact ⟨j + 1, by omega, by go_num, N6⟩
                case measure => simp [intOf]; omega
              · have hjm' : j = m := by omega
                have SE := SJ
                rw [hjm', List.drop_eq_nil_of_le (by rw [seqL_len]; omega)] at SE
                clear SJ
                go_wp2_with fail
                refine (rg_Get_no SE.out.rg (by simp; omega) rfl).mono ?_
                rintro e w5 ⟨rfl, q, rfl⟩
                go_wp2_with fail
                have hgk := HK.out
                go_roundg (gk - 1)
                case rel => exact ⟨k + 1, g + m, d', by omega, by go_num, by go_num, by omega, hd', Lib.hid (SE.out.keep (below_draws (Below.refl _ _) q))⟩
                case measure => omega
    · obtain rfl : k = D.length := by omega
      go_wp2_with fail
      refine (rg_Len ST.out.rg (by simp; omega)).mono ?_
      rintro e w5 ⟨rfl, q, rfl⟩
      go_wp2
      go_ret
      exact ⟨by simp, B1.out.trans ((below_draws ST.out.below q).mono B1.out.size)⟩

end Go.Proofs.Ytmonfkiakjaimaa
