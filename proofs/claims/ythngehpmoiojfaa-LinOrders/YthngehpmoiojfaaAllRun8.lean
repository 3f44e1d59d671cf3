/- Layer 8: what bellmanref08.All keeps in memory. · Layer 8: bellmanref08.All. -/
import Derived.Test.YthngehpmoiojfaaOrdPlain8
import Derived.Test.YthngehpmoiojfaaRefCheck8
import Derived.Test.YthngehpmoiojfaaAppSrc
import Derived.Test.YthngehpmoiojfaaMade
import Derived.Test.YthngehpmoiojfaaStep
import Derived.BigQuiet
import Derived.Deep.QuietTactic
import Derived.Deep.LoopGhost
import Derived.IntWalk
namespace Go.Proofs.Ythngehpmoiojfaa
open Go.RowKit

def fillZ (n i : Nat) : List Int := (List.range n).map fun j : Nat => if j < i then (j : Int) else 0
theorem fillZ_len (n i : Nat) : (fillZ n i).length = n := by simp [fillZ]
theorem fillZ_all (n : Nat) : fillZ n n = upZ n := by
  unfold fillZ upZ
  apply List.map_congr_left
  intro j hj
  rw [if_pos (List.mem_range.1 hj)]
theorem fillZ_step {n i : Nat} : (fillZ n i).set i (i : Int) = fillZ n (i + 1) := by
  apply List.ext_getElem?
  intro k
  by_cases hk : k < n
  · by_cases e : i = k
    · subst e
      rw [List.getElem?_set_self (by rw [fillZ_len]; exact hk)]
      simp [fillZ, hk]
    · rw [List.getElem?_set_ne e]
      simp only [fillZ, List.getElem?_map, List.getElem?_range hk, Option.map_some, Option.some.injEq]
      by_cases h1 : k < i
      · rw [if_pos h1, if_pos (by omega)]
      · rw [if_neg h1, if_neg (by omega)]
  · rw [List.getElem?_eq_none (by rw [List.length_set, fillZ_len]; omega), List.getElem?_eq_none (by rw [fillZ_len]; omega)]
theorem made_nums8 (n : Nat) : madeCells (Value.int .i64 0).cells (n * 1) = ((fillZ n 0).map numV).toArray := by
  apply Array.ext
  · simp [madeCells, fillZ]
  · intro i h1 h2
    simp [madeCells, fillZ, Value.cells, Nat.mod_one]
theorem blk_num {w : World} {G : Nat} {o : List Int} (h : Blk 3 w G (o.map numV)) {i : Nat} (hi : i < o.length) : w.cell? ⟨G, i, none⟩ = some (.int .i64 (o.getD i 0)) := by
  refine h.at ?_
  rw [List.getElem?_map, List.getElem?_eq_getElem hi, getD_at hi]
  rfl
theorem blk_nums {w : World} {G : Nat} {o : List Int} (h : Blk 3 w G (o.map numV)) : NumsIn w (.slice (some ⟨G, 0, none⟩) o.length o.length) o :=
  ⟨by simp, .inr ⟨G, 0, o.length, rfl, Nat.le_refl _, h.lt, fun j v hv => by rw [Nat.zero_add]; exact h.at hv⟩⟩
theorem blk_swap {w : World} {G : Nat} {o : List Int} (h : Blk 3 w G (o.map numV)) (a b : Nat) : Blk 3 ((w.setCell ⟨G, a, none⟩ (.int .i64 (o.getD b 0))).setCell ⟨G, b, none⟩ (.int .i64 (o.getD a 0))) G ((swapZ o a b).map numV) := by
  have := (h.set a (.int .i64 (o.getD b 0))).set b (.int .i64 (o.getD a 0))
  unfold swapZ
  rw [List.map_set, List.map_set]
  exact this
/-- Where the loop stands: the list, those found. -/
structure AS (w wr : World) (G : Nat) (L : List CallZ) (fv : Value) (o : List Int) (A : List (List Int)) (s : Nat) : Prop where
  blk : Blk 3 wr G (o.map numV)
  len : o.length = L.length
  own : wr.ownsRow (G + 1) 3 1 fv (A.head?.getD []).length ((A.head?.getD []).map numV)
  below : Below w.heap.size w wr
  low : w.heap.size ≤ G
  eq : A ++ (seqZ (5041 - s) o).filter (refCheckZ smallM L st0) = allZ L
theorem AS.keep {w wr w' : World} {G s : Nat} {L : List CallZ} {fv : Value} {o : List Int} {A : List (List Int)} (h : AS w wr G L fv o A s) (hb : Below wr.heap.size wr w') : AS w w' G L fv o A s :=
  ⟨h.blk.below hb h.blk.lt, h.len, own_only h.own (Only.of_below hb (fun _ => False)) (fun _ _ => id), h.below.trans (hb.mono h.below.size), h.low, h.eq⟩
/-- Another list in its place. -/
theorem AS.turn {w wr w' : World} {G s : Nat} {L : List CallZ} {fv : Value} {o : List Int} {A : List (List Int)} (h : AS w wr G L fv o A s) (ho : Only (· = G) wr w') : wr.heap.size ≤ w'.heap.size ∧ Below w.heap.size w w' ∧ w'.ownsRow (G + 1) 3 1 fv (A.head?.getD []).length ((A.head?.getD []).map numV) :=
  ⟨ho.size, Only.below_step h.below.size h.below ho (fun i hi e => by have := h.low; omega), own_only h.own ho (fun k hk e => by have := own_base3 h.own k hk; omega)⟩
theorem seq_one {s : Nat} (hs : s < 5041) (o : List Int) : seqZ (5041 - s) o = o :: if kOf o < 0 then [] else seqZ (5041 - (s + 1)) (nextZ o) := by
  rw [show 5041 - s = (5041 - (s + 1)) + 1 by omega]
  rfl

/-- The same, behind the look at the list. -/
structure AT (w wr : World) (G : Nat) (L : List CallZ) (fv : Value) (o : List Int) (A : List (List Int)) (s : Nat) : Prop where
  blk : Blk 3 wr G (o.map numV)
  len : o.length = L.length
  own : wr.ownsRow (G + 1) 3 1 fv (A.head?.getD []).length ((A.head?.getD []).map numV)
  below : Below w.heap.size w wr
  low : w.heap.size ≤ G
  eq : A ++ (if kOf o < 0 then [] else (seqZ (5041 - (s + 1)) (nextZ o)).filter (refCheckZ smallM L st0)) = allZ L
theorem AS.eqT {w wr : World} {G s : Nat} {L : List CallZ} {fv : Value} {o : List Int} {A : List (List Int)} (h : AS w wr G L fv o A s) (hs : s < 5041) :
    (if refCheckZ smallM L st0 o = true then A ++ [o] else A) ++ (if kOf o < 0 then [] else (seqZ (5041 - (s + 1)) (nextZ o)).filter (refCheckZ smallM L st0)) = allZ L := by
  have h1 := h.eq
  rw [seq_one hs, List.filter_cons] at h1
  split
  · rename_i hc
    rw [if_pos hc] at h1
    rw [← h1]
    split
    · simp
    · simp
  · rename_i hc
    rw [if_neg hc] at h1
    rw [← h1]
    split
    · simp
    · simp
theorem AS.no {w wr : World} {G s : Nat} {L : List CallZ} {fv : Value} {o : List Int} {A : List (List Int)} (h : AS w wr G L fv o A s) (hs : s < 5041) (hc : refCheckZ smallM L st0 o = false) : AT w wr G L fv o A s :=
  ⟨h.blk, h.len, h.own, h.below, h.low, by have := h.eqT hs; rw [hc] at this; exact this⟩
theorem AS.more {w wr : World} {G s : Nat} {L : List CallZ} {fv : Value} {o y : List Int} {A : List (List Int)} (h : AS w wr G L fv o (y :: A) s) (hs : s < 5041) (hc : refCheckZ smallM L st0 o = true) : AT w wr G L fv o (y :: A ++ [o]) s :=
  ⟨h.blk, h.len, h.own, h.below, h.low, by have := h.eqT hs; rw [hc] at this; exact this⟩
theorem AS.first {w wr w' : World} {G s : Nat} {L : List CallZ} {fv fv' : Value} {o : List Int} (h : AS w wr G L fv o [] s) (hs : s < 5041) (hc : refCheckZ smallM L st0 o = true) (hb : Below wr.heap.size wr w') (ho : w'.ownsRow wr.heap.size 3 1 fv' o.length (o.map numV)) : AT w w' G L fv' o [o] s :=
  ⟨(h.keep hb).blk, h.len, own_lower ho h.blk.lt, (h.keep hb).below, h.low, by have := h.eqT hs; rw [hc] at this; exact this⟩
theorem AT.next {w wr w' : World} {G s : Nat} {L : List CallZ} {fv : Value} {o : List Int} {A : List (List Int)} (h : AT w wr G L fv o A s) (hk : ¬ kOf o < 0) (hb : Blk 3 w' G ((nextZ o).map numV)) (ho : Only (· = G) wr w') : AS w w' G L fv (nextZ o) A (s + 1) :=
  ⟨hb, by rw [nextZ_len]; exact h.len, own_only h.own ho (fun k hk e => by have := own_base3 h.own k hk; omega), Only.below_step h.below.size h.below ho (fun i hi e => by have := h.low; omega), h.low, by have := h.eq; rwa [if_neg hk] at this⟩
theorem AT.done {w wr : World} {G s : Nat} {L : List CallZ} {fv : Value} {o : List Int} {A : List (List Int)} (h : AT w wr G L fv o A s) (hk : kOf o < 0) : A = allZ L := by
  have := h.eq
  rw [if_pos hk, List.append_nil] at this
  exact this

end Go.Proofs.Ythngehpmoiojfaa

namespace Go.Proofs.Ythngehpmoiojfaa
open Go.RowKit

set_option maxRecDepth 100000 in
set_option maxHeartbeats 4000000 in
theorem ref_All {w : World} {v : Value} {L : List CallZ} (hL : CallsIn w v L) (hl : L.length ≤ 7) :
    Calls Try.prog 8 #[v] w fun e w' => ∃ r, e = .returned (.tuple #[r, .int .i64 ((allZ L).length : Int)]) ∧ NumsIn w' r ((allZ L).head?.getD []) ∧ Below w.heap.size w w' := by
  have HL := Lib.hid hL
  obtain ⟨a, c, rfl, _⟩ := hL
  obtain ⟨n, hn⟩ : ∃ n, L.length = n := ⟨_, rfl⟩
  rw [hn] at hl
  have HC : Hid (CallsIn w (.slice a n c) L) := Lib.hid (by rw [← hn]; exact HL.out)
  have hmk := run_make_recs (P := Try.prog) Try.underlying23 infoInt n (by omega) (by omega) w
  rw [made_nums8] at hmk
  have hb0 : Blk 3 (w.alloc (.cells ((fillZ n 0).map numV).toArray 3)) w.heap.size ((fillZ n 0).map numV) := Blk.new
  have B0 := Lib.hid hb0
  have HN := Lib.hid hn
  rw [hn]
  clear hb0 hn
  have hBe : Below w.heap.size w (w.alloc (.cells ((fillZ n 0).map numV).toArray 3)) := (Below.refl _ _).alloc (Nat.le_refl _) _
  have BE := Lib.hid hBe
  generalize ((fillZ n 0).map numV).toArray = Z at hmk B0 BE
  clear hBe
  obtain ⟨G, hG⟩ : ∃ G, w.heap.size = G := ⟨_, rfl⟩
  have HG := Lib.hid hG
  clear hG
  go_enter Try.func8, Try.ntmps8
  go_upto_region 3 with fail
  have BG : Hid (Blk 3 (w.alloc (.cells Z 3)) G ((fillZ n 0).map numV) ∧ w.heap.size ≤ G) := Lib.hid (by rw [← HG.out]; exact ⟨B0.out, Nat.le_refl _⟩)
  rw [HG.out]
  generalize w.alloc (.cells Z 3) = wa at *
  clear hmk B0
  go_wp2_with fail
  go_loopw [6] (fun i wr => ∃ k : Nat, k ≤ n ∧ i = .int .i64 k ∧ Hid (Blk 3 wr G ((fillZ n k).map numV)) ∧ Hid (Below w.heap.size w wr)) (fun i _ => n - (intOf i).toNat)
  case atStart => exact ⟨0, Nat.zero_le _, rfl, Lib.hid BG.out.1, BE⟩
  case round =>
    obtain ⟨k, hk, rfl, HB, HW⟩ := hrel
    by_cases hlt : k < n
    · have c0 := blk_num HB.out (i := k) (by rw [fillZ_len]; exact hlt)
      have f0 := HB.out.frozen k
      have hst := HB.out.set k (numV (k : Int))
      rw [← List.map_set, fillZ_step] at hst
      have HB' := Lib.hid hst
      have HW' := Lib.hid (Only.below_step HW.out.size HW.out (only_at wr G k (numV (k : Int))) (fun i hi e => by have := BG.out.2; omega))
      generalize (fillZ n k).getD k 0 = y at c0
      clear hst
      go_wp2_with fail
      go_roundw
      case rel => exact ⟨k + 1, by omega, by go_num, HB', HW'⟩
      case measure => simp [intOf]; omega
    · obtain rfl : k = n := by omega
      have AS0 : Hid (AS w wr G L (.slice none 0 0) (upZ k) [] 0) := Lib.hid ⟨by have := HB.out; rwa [fillZ_all] at this, by rw [HN.out]; simp [upZ], World.ownsRow_nil _ _ _ _, HW.out, BG.out.2, by show (seqZ 5041 _).filter _ = _; unfold allZ; rw [HN.out]⟩
      clear HB HW BG BE
      generalize wr = wb at *
      go_wp2_with fail
      go_loopg [7, 8, 9] 5041 (fun g u7 u8 u9 wr => ∃ (s : Nat) (o : List Int) (A : List (List Int)), s + g = 5041 ∧ u9 = .int .i64 s ∧ u8 = .int .i64 A.length ∧ Hid (AS w wr G L u7 o A s))
      case atStart => exact ⟨0, _, _, by omega, rfl, rfl, AS0⟩
      case round =>
        obtain ⟨s, o, A, hg, rfl, rfl, ST⟩ := hrel
        have HK := Lib.hid hg
        have hsL : s ≤ 5041 := by omega
        have hAl : A.length ≤ 5041 := by
          have := congrArg List.length ST.out.eq
          rw [List.length_append] at this
          have := allZ_len L
          omega
        clear AS0 hg
        by_cases hs : s < 5041
        · have CN := Lib.hid (NumsF.of (show NumsIn wr (.slice (some ⟨G, 0, none⟩) k k) o by
            have := blk_nums ST.out.blk
            rwa [ST.out.len, HN.out] at this))
          go_wp2_with fail
          with_reducible refine (ref_Check8 (HC.out.below ST.out.below) (by rw [HN.out]; omega) CN.out).mono ?_
          rintro e w5 ⟨rfl, hb5⟩
          have S5 := Lib.hid (ST.out.keep hb5)
          obtain ⟨bb, hbb⟩ : ∃ bb, refCheckZ smallM L st0 o = bb := ⟨_, rfl⟩
          have HB := Lib.hid hbb
          rw [hbb]
          clear hbb hb5 CN
          go_upto_if 35 with fail
          go_cut [7, 8] from 36 to 42 (fun u7 u8 wx => ∃ (wz : World) (A' : List (List Int)), wz = wx ∧ u8 = .int .i64 A'.length ∧ A'.length ≤ 5042 ∧ Hid (AT w wz G L u7 o A' s))
          case first =>
            cases bb with
            | false =>
              go_wp2_with fail
              go_meet
              case rel => exact ⟨_, A, rfl, rfl, by omega, Lib.hid (S5.out.no hs HB.out)⟩
            | true =>
              by_cases hA : A.length = 0
              · obtain rfl : A = [] := List.eq_nil_of_length_eq_zero hA
                obtain ⟨v6, w6, hrun, hown, hb6⟩ := run_append_copy w5 23 (.slice (some ⟨G, 0, none⟩) k k) o (by
                  have := blk_nums S5.out.blk
                  rwa [S5.out.len, HN.out] at this) (by rw [S5.out.len, HN.out]; omega)
                obtain ⟨a6, c6, rfl⟩ := own_form hown
                have T6 := Lib.hid (S5.out.first hs HB.out hb6 hown)
                have HR := Lib.hid hrun
                clear hrun hown hb6 hA hAl
                rw [show ((([] : List (List Int)).length : Nat) : Int) = 0 from rfl]
                go_wp2_with (at_builtin; refine wpList_append_run rfl _ _ 23 rfl _ _ _ _ rfl rfl HR.out ?_)
                go_meet
                case rel => exact ⟨_, [o], rfl, rfl, by simp, T6⟩
              · have q1 : ((A.length : Int) == 0) = false := beq_eq_false_iff_ne.2 (by omega)
                have T6 : Hid (AT w w5 G L u7 o (A ++ [o]) s) := by
                  cases A with
                  | nil => exact absurd rfl hA
                  | cons y A => exact Lib.hid (S5.out.more hs HB.out)
                have hl6 : (A ++ [o]).length = A.length + 1 := by simp
                have HL6 := Lib.hid hl6
                clear hA hl6
                go_wp2_with fail
                go_meet
                case rel => exact ⟨_, A ++ [o], rfl, by rw [HL6.out]; rfl, by rw [HL6.out]; simp; omega, T6⟩
          case rest =>
            obtain ⟨wx, A', rfl, rfl, hA', TT⟩ := hcut
            clear ST S5 HB
            have hlen : o.length = k := TT.out.len.trans HN.out
            have HLEN := Lib.hid hlen
            clear hlen
            go_wp2_with fail
            go_loopw [10] (fun u10 wr => ∃ (kk : Int) (q : Nat), u10 = .int .i64 kk ∧ wr = wx.drewN q ∧ -2 ≤ kk ∧ kk ≤ (k : Int) - 2 ∧ Hid (kDown o (kk + 1).toNat = kOf o)) (fun u10 _ => (intOf u10 + 2).toNat)
            case atStart => exact ⟨(k : Int) - 2, 0, rfl, rfl, by omega, by omega, Lib.hid (by unfold kOf; rw [HLEN.out]; congr 1; omega)⟩
            case round =>
              obtain ⟨kk, q, rfl, rfl, hk1, hk2, HD⟩ := hrel
              by_cases hk0 : 0 ≤ kk
              · obtain ⟨t, rfl⟩ : ∃ t : Nat, kk = (t : Int) := ⟨kk.toNat, by omega⟩
                have ht : t + 1 < k := by omega
                have y0 := blk_num TT.out.blk (i := t) (by rw [HLEN.out]; omega)
                have y1 := blk_num TT.out.blk (i := t + 1) (by rw [HLEN.out]; omega)
                have hD : kDown o (t + 1) = kOf o := by have := HD.out; rwa [show ((t : Int) + 1).toNat = t + 1 by omega] at this
                have HD1 := Lib.hid hD
                by_cases hc : o.getD (t + 1) 0 < o.getD t 0
                · have HD2 := Lib.hid (show kDown o t = kOf o from (if_pos hc).symm.trans HD1.out)
                  generalize o.getD (t + 1) 0 = z1 at *
                  generalize o.getD t 0 = z0 at *
                  have hq : decide (z1 < z0) = true := by simpa using hc
                  clear hD HD HD1
                  go_wp2_with fail
                  go_quiet (fail)
                  go_wp2_with fail
                  go_roundw
                  case rel => exact ⟨(t : Int) - 1, _, by go_num, rfl, by omega, by omega, Lib.hid (by rw [show ((t : Int) - 1 + 1).toNat = t by omega]; exact HD2.out)⟩
                  case measure => simp [intOf]; omega
                · have hkt : kOf o = (t : Int) := hD.symm.trans (if_neg hc)
                  have hup : o.getD t 0 ≤ o.getD (t + 1) 0 := by omega
                  have HX := Lib.hid (show ∀ j : Nat, jDown o (o.getD t 0) j = jOf o → jDown o (o.getD t 0) j = jOf o from fun _ h => h)
                  have HJ0 := Lib.hid (show jDown o (o.getD t 0) (k - 1) = jOf o by unfold jOf; rw [hkt, Int.toNat_natCast, HLEN.out])
                  have HKT := Lib.hid hkt
                  have HUP := Lib.hid hup
                  have HZ1 := Lib.hid (show ∃ z, o.getD (t + 1) 0 = z from ⟨_, rfl⟩)
                  obtain ⟨z0, hz0⟩ : ∃ z0, o.getD t 0 = z0 := ⟨_, rfl⟩
                  have HZ0 := Lib.hid hz0
                  rw [hz0] at y0 hc HJ0
                  obtain ⟨z1, hz1⟩ : ∃ z1, o.getD (t + 1) 0 = z1 := ⟨_, rfl⟩
                  rw [hz1] at y1 hc
                  have hq : decide (z1 < z0) = false := by simpa using hc
                  clear hD HD HD1 hkt hup hz0 hz1 HX HZ1
                  go_wp2_with fail
                  go_quiet (fail)
                  go_wp2_with fail
                  clear y1 hq hc
                  go_loopw [11] (fun u11 wr => ∃ (j q : Nat), u11 = .int .i64 j ∧ wr = wx.drewN q ∧ t + 1 ≤ j ∧ j + 1 ≤ k ∧ Hid (jDown o z0 j = jOf o)) (fun u11 _ => (intOf u11).toNat)
                  case atStart => exact ⟨k - 1, _, by first | rfl | (congr 1; omega), rfl, by omega, by omega, HJ0⟩
                  case round =>
                    obtain ⟨j, q2, rfl, rfl, hj1, hj2, HJ⟩ := hrel
                    have y1 := blk_num TT.out.blk (i := j) (by rw [HLEN.out]; omega)
                    obtain ⟨z1, hz1⟩ : ∃ z1, o.getD j 0 = z1 := ⟨_, rfl⟩
                    rw [hz1] at y1
                    have HZ1 := Lib.hid hz1
                    clear hz1
                    by_cases hc : z1 < z0
                    · have hne : j ≠ t + 1 := fun e => by
                        have h1 := HUP.out
                        have h2 := HZ1.out
                        have h3 := HZ0.out
                        rw [e] at h2
                        omega
                      obtain ⟨j, rfl⟩ : ∃ j', j = j' + 1 := ⟨j - 1, by omega⟩
                      have HJ' := Lib.hid (show jDown o z0 j = jOf o by
                        have := HJ.out
                        unfold jDown at this
                        rwa [HZ1.out, if_pos hc] at this)
                      have hq : decide (z1 < z0) = true := by simpa using hc
                      go_wp2_with fail
                      go_quiet (fail)
                      go_wp2_with fail
                      go_roundw
                      case rel => exact ⟨j, _, by go_num, rfl, by omega, by omega, HJ'⟩
                      case measure => simp [intOf]
                    · have HJ' := Lib.hid (show jOf o = j by
                        have := HJ.out
                        cases j with
                        | zero => omega
                        | succ j =>
                          unfold jDown at this
                          rw [HZ1.out, if_neg hc] at this
                          exact this.symm)
                      have hq : decide (z1 < z0) = false := by simpa using hc
                      go_wp2_with fail
                      go_quiet (fail)
                      go_wp2_with fail
                      clear hq hc
                      have BSW := Lib.hid (show ∀ q, Blk 3 (((wx.drewN q).setCell ⟨G, t, none⟩ (.int .i64 z1)).setCell ⟨G, j, none⟩ (.int .i64 z0)) G ((swapZ o t j).map numV) ∧ Only (· = G) wx (((wx.drewN q).setCell ⟨G, t, none⟩ (.int .i64 z1)).setCell ⟨G, j, none⟩ (.int .i64 z0)) from fun q => ⟨by
                        have := blk_swap (TT.out.blk.drewN q) t j
                        rwa [HZ1.out, HZ0.out] at this, ((Only.refl _ wx).drewN q).trans ((only_at _ _ _ _).trans (only_at _ _ _ _))⟩)
                      have g0 := TT.out.blk.frozen t
                      have g1 := TT.out.blk.frozen j
                      have hnk := Lib.hid (show ¬ kOf o < 0 by rw [HKT.out]; omega)
                      have HNX := Lib.hid (show revZ k (swapZ o t j) (t + 1) (k - 1) = nextZ o by unfold nextZ; rw [HKT.out, Int.toNat_natCast, HJ'.out, HLEN.out])
                      have htj : t ≠ j := by omega
                      go_quiet (fail)
                      go_upto_region 26 with fail
                      generalize hw9 : World.setCell (World.setCell _ _ _) _ _ = w9
                      have B9 : Hid (Blk 3 w9 G ((swapZ o t j).map numV) ∧ Only (· = G) wx w9) := Lib.hid (by rw [← hw9]; exact BSW.out _)
                      clear hw9 BSW g0 g1 y0 y1 htj
                      go_wp2_with fail
                      go_loopw [12, 13, 14, 15] (fun _ _ u14 u15 wr => ∃ (f a b : Nat) (o' : List Int), u14 = .int .i64 a ∧ u15 = .int .i64 b ∧ b ≤ a + f ∧ b < k ∧ Hid (o'.length = k) ∧ Hid (revZ f o' a b = nextZ o) ∧ Hid (Blk 3 wr G (o'.map numV) ∧ Only (· = G) wx wr)) (fun _ _ u14 u15 _ => (intOf u15).toNat - (intOf u14).toNat)
                      case atStart => exact ⟨k, t + 1, k - 1, _, by go_num, by first | rfl | (congr 1; omega), by omega, by omega, Lib.hid (by rw [swapZ_len]; exact HLEN.out), HNX, B9⟩
                      case round =>
                        obtain ⟨f, a1, b1, o1, rfl, rfl, hf, hbk, HLO, HRV, HBO⟩ := hrel
                        by_cases hab : a1 < b1
                        · obtain ⟨f, rfl⟩ : ∃ f', f = f' + 1 := ⟨f - 1, by omega⟩
                          have y0 := blk_num HBO.out.1 (i := a1) (by rw [HLO.out]; omega)
                          have y1 := blk_num HBO.out.1 (i := b1) (by rw [HLO.out]; omega)
                          have HRV' := Lib.hid (show revZ f (swapZ o1 a1 b1) (a1 + 1) (b1 - 1) = nextZ o from (if_pos hab).symm.trans HRV.out)
                          have BSW := Lib.hid (show ∀ q, Blk 3 (((wr.drewN q).setCell ⟨G, a1, none⟩ (.int .i64 (o1.getD b1 0))).setCell ⟨G, b1, none⟩ (.int .i64 (o1.getD a1 0))) G ((swapZ o1 a1 b1).map numV) ∧ Only (· = G) wx (((wr.drewN q).setCell ⟨G, a1, none⟩ (.int .i64 (o1.getD b1 0))).setCell ⟨G, b1, none⟩ (.int .i64 (o1.getD a1 0))) from fun q => ⟨blk_swap (HBO.out.1.drewN q) a1 b1, (HBO.out.2.drewN q).trans ((only_at _ _ _ _).trans (only_at _ _ _ _))⟩)
                          have g0 := HBO.out.1.frozen a1
                          have g1 := HBO.out.1.frozen b1
                          have HLO' := Lib.hid (show (swapZ o1 a1 b1).length = k by rw [swapZ_len]; exact HLO.out)
                          generalize o1.getD a1 0 = x0 at *
                          generalize o1.getD b1 0 = x1 at *
                          have htj : a1 ≠ b1 := by omega
                          go_wp2_with fail
                          go_quiet (fail)
                          go_upto_region 30 with fail
                          generalize hw9 : World.setCell (World.setCell _ _ _) _ _ = w10
                          have B10 : Hid (Blk 3 w10 G ((swapZ o1 a1 b1).map numV) ∧ Only (· = G) wx w10) := Lib.hid (by rw [← hw9]; exact BSW.out _)
                          clear hw9 BSW g0 g1 y0 y1 htj
                          go_wp2_with fail
                          go_roundw
                          case rel => exact ⟨f, a1 + 1, b1 - 1, _, by go_num, by first | go_num | (congr 1; omega), by omega, by omega, HLO', HRV', B10⟩
                          case measure => simp [intOf]; omega
                        · have HO1 := Lib.hid (show o1 = nextZ o by
                            have := HRV.out
                            cases f with
                            | zero => exact this
                            | succ f => exact (if_neg hab).symm.trans this)
                          have AS1 := Lib.hid (TT.out.next (by have := hnk.out; omega) (by rw [← HO1.out]; exact HBO.out.1) HBO.out.2)
                          clear HRV HLO
                          go_wp2_with fail
                          have hgk := HK.out
                          go_roundg (gk - 1)
                          case rel => exact ⟨s + 1, _, _, by omega, by go_num, rfl, AS1⟩
                          case measure => omega
              · have hkn : kOf o < 0 := by
                  have := HD.out
                  rw [show (kk + 1).toNat = 0 by omega] at this
                  rw [← this]
                  show (-1 : Int) < 0
                  decide
                have hk0' : decide (0 ≤ kk) = false := by simpa using hk0
                have hk0'' : kk < 0 := by omega
                have hA := TT.out.done hkn
                have SO := Lib.hid (SliceK.of_own TT.out.own)
                obtain ⟨fa, fc, fe⟩ := own_form TT.out.own
                have SB := Lib.hid TT.out.below
                subst fe
                have HA := Lib.hid hA
                clear TT hA hkn HD
                go_wp2_with fail
                go_quiet (fail)
                go_wp2
                go_ret2
                rw [HA.out] at SO ⊢
                exact ⟨_, rfl, SO.out.below (below_draws (Below.refl _ _) _), below_draws SB.out _⟩
        · obtain rfl : s = 5041 := by omega
          have hA : A = allZ L := by
            have := ST.out.eq
            simpa [seqZ] using this
          have HA := Lib.hid hA
          have SO := Lib.hid (SliceK.of_own ST.out.own)
          obtain ⟨fa, fc, fe⟩ := own_form ST.out.own
          have SB := Lib.hid ST.out.below
          subst fe
          clear ST hA
          go_wp2
          go_ret2
          rw [HA.out] at SO ⊢
          exact ⟨_, rfl, SO.out, SB.out⟩

end Go.Proofs.Ythngehpmoiojfaa
