/- Layer 8: bellmanref08.Check. -/
import Derived.Test.YthngehpmoiojfaaRefMF8
import Derived.Deep.LoopGhost
import Derived.Deep.CutRange
import Derived.Deep.CutBlock
namespace Go.Proofs.Ythngehpmoiojfaa
open Go.RowKit

set_option maxHeartbeats 8000000 in
set_option maxRecDepth 100000 in
theorem ref_Check8 {w : World} {v : Value} {L : List CallZ} {ov : Value} {O : List Int} (hL : CallsIn w v L) (hLl : L.length ≤ 100000) (hO : NumsF w ov O) :
    Calls Try.prog 14 #[v, ov] w fun e w' => e = .returned (.bool (refCheckZ smallM L st0 O)) ∧ Below w.heap.size w w' := by
  obtain ⟨a, c, rfl, hr⟩ := hL
  obtain ⟨oa, oc, rfl, ho⟩ := hO
  have H := Lib.hid hr
  have HO := Lib.hid ho
  clear hr ho
  by_cases hlen : O.length = L.length
  · have LE := Lib.hid hlen
    have hOL : O.length ≤ L.length := by omega
    have hres : refCheckZ smallM L st0 O = checkZ smallM L (List.replicate L.length false) st0 O := by unfold refCheckZ; simp [hlen]
    rw [hres, hlen]
    clear hres
    clear hlen
    have hmk := run_make_recs (P := Try.prog) Try.underlying68 infoBool8 L.length (by omega) (by omega)
    simp only [made_bools8] at hmk
    obtain ⟨Z, hZ⟩ : ∃ Z : List Value, Z = (List.replicate L.length false).map Value.bool := ⟨_, rfl⟩
    rw [← hZ] at hmk
    have HZ := Lib.hid hZ
    clear hZ
    go_enter Try.func14, Try.ntmps14
    go_upto_region 5 with fail
    obtain ⟨w0, e0⟩ : ∃ w0, (w.alloc (.cells #[.int .i64 0, .string ⟨#[]⟩] 40)).alloc (.cells Z.toArray 4) = w0 := ⟨_, rfl⟩
    have C0 := Lib.hid (ch_start (L := L) e0 (by rw [HZ.out]))
    rw [e0]
    clear e0 hmk HZ
    obtain ⟨G, hG⟩ : ∃ G, w.heap.size + 1 = G := ⟨_, rfl⟩
    rw [hG] at C0 ⊢
    obtain ⟨X, hX⟩ : ∃ X, w.heap.size = X := ⟨_, rfl⟩
    rw [hX] at C0 ⊢
    clear hG
    have HX := Lib.hid hX
    clear hX
    go_wp2_with fail
    go_loopw [7] (fun iv wr => ∃ (k : Nat) (D : List Bool) (s : StZ), k ≤ L.length ∧ iv = .int .i64 k ∧ Hid (ChIs w wr X G L D s k) ∧ Hid (checkZ smallM L D s (O.drop k) = checkZ smallM L (List.replicate L.length false) st0 O)) (fun iv _ => L.length - (intOf iv).toNat)
    case atStart => exact ⟨0, _, _, Nat.zero_le _, rfl, C0, Lib.hid rfl⟩
    case round =>
      obtain ⟨k, D, s, hk, rfl, C, E⟩ := hrel
      by_cases hlt : k < L.length
      · have hltO : k < O.length := by rw [LE.out]; exact hlt
        obtain ⟨b, off, rfl, hb, hy⟩ := HO.out k hltO
        have hy := (C.out.below.cell (p := ⟨b, off + k, none⟩) hb).trans hy
        rw [getD_at hltO] at hy
        have hd := E.out
        rw [List.drop_eq_getElem_cons hltO, check_cons] at hd
        generalize O[k] = y at hy hd
        have ED := Lib.hid hd
        clear hd
        by_cases h0 : y < 0
        · have hR := Lib.hid (show false = checkZ smallM L (List.replicate L.length false) st0 O by rw [← ED.out]; simp [show ¬ 0 ≤ y by omega])
          go_wp2
          go_ret
          exact ⟨by rw [← hR.out]; rfl, C.out.below⟩
        by_cases h1 : (L.length : Int) ≤ y
        · have hR := Lib.hid (show false = checkZ smallM L (List.replicate L.length false) st0 O by rw [← ED.out]; simp [show ¬ y < (L.length : Int) by omega])
          have d0 : decide (y < 0) = false := by simpa using h0
          go_wp2
          go_ret
          exact ⟨by rw [← hR.out]; rfl, C.out.below⟩
        obtain ⟨i, rfl⟩ : ∃ i : Nat, y = (i : Int) := ⟨y.toNat, by omega⟩
        have hi : i < L.length := by omega
        have c6 := C.out.at hi
        cases hdn : doneB D i with
        | true =>
          have hR := Lib.hid (show false = checkZ smallM L (List.replicate L.length false) st0 O by rw [← ED.out, Int.toNat_natCast, free_done hdn]; simp)
          rw [hdn] at c6
          have d2 : decide (L.length ≤ i) = false := by simpa using hi
          go_wp2
          go_ret
          exact ⟨by rw [← hR.out]; rfl, C.out.below⟩
        | false =>
          rw [hdn] at c6
          have d2 : decide (L.length ≤ i) = false := by simpa using hi
          have FZ := Lib.hid (show freeTo L D i 0 = true by rw [freeTo_zero, hdn]; rfl)
          obtain ⟨b2, off2, rfl, hb2, hrgi⟩ := H.out.range hi
          have hrgi : wr.rangeAt b2 (off2 + i * 15) (callV L[i]) := fun j v hv => (C.out.below.cell (p := ⟨b2, off2 + i * 15 + j, none⟩) hb2).trans (hrgi j v hv)
          have k13 : wr.cell? ⟨b2, off2 + i * 15 + 13, none⟩ = some (numV L[i].fr) := hrgi 13 _ rfl
          have HAT := Lib.hid (atZ_nat hi)
          have HATf := Lib.hid (show (atZ L (i : Int)).fr = L[i].fr by rw [atZ_nat hi])
          have RG := Lib.hid hrgi
          generalize L[i] = ci at k13 HAT HATf RG
          generalize ci.fr = fi at k13 HATf
          clear hrgi hdn
          go_wp2_with fail
          go_loopw [9] (fun jv wq => ∃ (j n : Nat), j ≤ L.length ∧ jv = .int .i64 j ∧ Hid (freeTo L D i j = true) ∧ wq = wr.drewN n) (fun jv _ => L.length - (intOf jv).toNat)
          case atStart => exact ⟨0, 0, Nat.zero_le _, rfl, FZ, rfl⟩
          case round =>
            obtain ⟨j, n, hj, rfl, FJ, rfl⟩ := hrel
            by_cases hjl : j < L.length
            · obtain ⟨b3, off3, e3, hb3, hrgj⟩ := H.out.range hjl
              cases e3
              have k14 : wr.cell? ⟨b2, off2 + j * 15 + 14, none⟩ = some (numV L[j].to) := (C.out.below.cell (p := ⟨b2, off2 + j * 15 + 14, none⟩) hb3).trans (hrgj 14 _ rfl)
              have cj := C.out.at hjl
              have hsu := freeTo_succ L D i j
              rw [HATf.out, atZ_nat hjl, FJ.out] at hsu
              generalize L[j].to = tj at k14 hsu
              clear hrgj
              cases hdj : doneB D j with
              | true =>
                rw [hdj] at cj
                have S := Lib.hid (show freeTo L D i (j + 1) = true by rw [hsu, hdj]; simp)
                clear hsu hdj
                go_wp2
                go_quiet (fail)
                go_wp2
                go_roundw
                case rel => exact ⟨j + 1, _, by omega, by go_num, S, rfl⟩
                case measure => simp [intOf]; omega
              | false =>
                rw [hdj] at cj
                by_cases e1 : j = i
                · have e1' : ((j : Int) != (i : Int)) = false := by simp [e1]
                  have S := Lib.hid (show freeTo L D i (j + 1) = true by rw [hsu, show (j != i) = false by simp [e1]]; simp)
                  clear hsu e1 hdj
                  go_wp2
                  go_quiet (fail)
                  go_wp2
                  go_roundw
                  case rel => exact ⟨j + 1, _, by omega, by go_num, S, rfl⟩
                  case measure => simp [intOf]; omega
                · have e1' : ((j : Int) != (i : Int)) = true := by simp; omega
                  have e1n : (j != i) = true := by simp [e1]
                  by_cases e2 : tj < fi
                  · have e2' : decide (tj < fi) = true := by simpa using e2
                    have S := Lib.hid (show freeTo L D i L.length = false by
                      cases hf : freeTo L D i L.length with
                      | false => rfl
                      | true =>
                        have h3 := (freeTo_iff.1 hf).2 j hjl e1 hdj
                        rw [e1n, hdj, e2'] at hsu
                        have : freeTo L D i (j + 1) = true := by
                          unfold freeTo at hf ⊢
                          rw [Bool.and_eq_true] at hf ⊢
                          exact ⟨hf.1, List.all_eq_true.2 fun x hx => List.all_eq_true.1 hf.2 x (List.mem_range.2 (by have := List.mem_range.1 hx; omega))⟩
                        rw [hsu] at this
                        simp at this)
                    have hR := Lib.hid (show false = checkZ smallM L (List.replicate L.length false) st0 O by rw [← ED.out, Int.toNat_natCast, S.out]; simp)
                    clear hsu e1 e1n hdj e2
                    go_wp2
                    go_quiet (fail)
                    go_wp2
                    go_ret
                    exact ⟨by rw [← hR.out]; rfl, (C.out.keep (below_draws (below_draws (Below.refl _ _) _) _)).below⟩
                  · have e2' : decide (tj < fi) = false := by simpa using e2
                    have S := Lib.hid (show freeTo L D i (j + 1) = true by rw [hsu, e1n, hdj, e2']; simp)
                    clear hsu e1 e1n hdj e2
                    go_wp2
                    go_quiet (fail)
                    go_wp2
                    go_roundw
                    case rel => exact ⟨j + 1, _, by omega, by go_num, S, rfl⟩
                    case measure => simp [intOf]; omega
            · obtain rfl : j = L.length := by omega
              have C2 := Lib.hid (C.out.keep (below_draws (Below.refl _ _) n))
              have hlo := C.out.lo
              have hhi := C.out.hi
              have RX := Lib.hid (show ∀ W, Below w.heap.size w W → W.rangeAt b2 (off2 + i * 15) (callV ci) from fun W hW j v hv => by
                have h1 := RG.out j v hv
                rw [← h1]
                exact (hW.cell (p := ⟨b2, off2 + i * 15 + j, none⟩) hb2).trans (C.out.below.cell (p := ⟨b2, off2 + i * 15 + j, none⟩) hb2).symm)
              obtain ⟨dz, hdz⟩ : ∃ dz, doZ s ci.op = dz := ⟨_, rfl⟩
              obtain ⟨s', a'⟩ := dz
              have DZ := Lib.hid hdz
              clear k13 c6 hdz
              go_upto_region 16 with fail
              generalize wr.drewN n = wq at C2 ⊢
              go_cut [8, 9, 10, 11] from 25 to 95 (fun s8 s9 s10 s11 wx => ∃ p10 p11 : Nat, s8 = .int .i64 i ∧ s9 = .int .i64 L.length ∧ s10 = .pointer (some ⟨p10, 0, none⟩) ∧ s11 = .pointer (some ⟨p11, 0, none⟩) ∧ Hid (RMid w wq wx X G L D s k p10 p11 s' a'))
              case first =>
                have MX := Lib.hid (RM.start C2.out).drew
                refine wp_region_noPanic ?_
                refine wp_region_held_drew (S := (fun w' => w'.rangeAt X 0 (stV s) ∧ w'.rangeAt b2 (off2 + i * 15 + 2) (opV ci.op))) (by kernel_rfl) ?_ (fun hHeld => ?_)
                · first | exact ⟨blk_range MX.out.ch.st, range_part (RX.out _ MX.out.ch.below) (call_op ci)⟩ | exact ⟨blk_range MO.out.ch.st, range_part (RX.out _ MO.out.ch.below) (call_op ci)⟩ | exact ⟨blk_range MD.out.ch.st, range_part (RX.out _ MD.out.ch.below) (call_op ci)⟩
                refine wpAnyH_take (i := 0) (oi := ⟨some 75, _, _, _, _, _⟩) (v := stA s) rfl (by kernel_rfl) (by kernel_rfl) (by kernel_rfl) (fun _ _ _ h => h) (yieldsIf_load_mid (by rfl) 40 (.tmp 5) rfl X 0 rfl (stV s) _ (fun _ h => h.1) Try.underlying40 rfl (by kernel_rfl)) (by assumption) ?_
                try simp only [Act.put, List.setIfInBounds_toArray, List.set_cons_zero, List.set_cons_succ]
                refine wpAnyH_take (i := 1) (oi := ⟨some 76, _, _, _, _, _⟩) (v := ?_) rfl (by kernel_rfl) (by kernel_rfl) (by kernel_rfl) (fun _ _ _ h => h) (Or.inl ⟨by rfl, ?_⟩) (by assumption) ?_
                rotate_left
                · (intro w hSw; (try dsimp only at hSw); go_simp; try with_reducible rfl)
                try simp only [Act.put, List.setIfInBounds_toArray, List.set_cons_zero, List.set_cons_succ]
                refine wpAnyH_take (i := 2) (oi := ⟨some 77, _, _, _, _, _⟩) (v := ?_) rfl (by kernel_rfl) (by kernel_rfl) (by kernel_rfl) (fun _ _ _ h => h) (Or.inl ⟨by rfl, ?_⟩) (by assumption) ?_
                rotate_left
                · (intro w hSw; (try dsimp only at hSw); go_simp; try with_reducible rfl)
                try simp only [Act.put, List.setIfInBounds_toArray, List.set_cons_zero, List.set_cons_succ]
                refine wpAnyH_take (i := 3) (oi := ⟨some 78, _, _, _, _, _⟩) (v := ?_) rfl (by kernel_rfl) (by kernel_rfl) (by kernel_rfl) (fun _ _ _ h => h) (Or.inl ⟨by rfl, ?_⟩) (by assumption) ?_
                rotate_left
                · (intro w hSw; (try dsimp only at hSw); go_simp; try with_reducible rfl)
                try simp only [Act.put, List.setIfInBounds_toArray, List.set_cons_zero, List.set_cons_succ]
                refine wpAnyH_take (i := 4) (oi := ⟨some 79, _, _, _, _, _⟩) (v := ?_) rfl (by kernel_rfl) (by kernel_rfl) (by kernel_rfl) (fun _ _ _ h => h) (Or.inl ⟨by rfl, ?_⟩) (by assumption) ?_
                rotate_left
                · (intro w hSw; (try dsimp only at hSw); go_simp; try with_reducible rfl)
                try simp only [Act.put, List.setIfInBounds_toArray, List.set_cons_zero, List.set_cons_succ]
                refine wpAnyH_take (i := 5) (oi := ⟨some 80, _, _, _, _, _⟩) (v := opA ci.op) rfl (by kernel_rfl) (by kernel_rfl) (by kernel_rfl) (fun _ _ _ h => h) (yieldsIf_load_mid (by rfl) 27 (.tmp 79) rfl b2 (off2 + i * 15 + 2) rfl (opV ci.op) _ (fun _ h => h.2) Try.underlying27 rfl (by kernel_rfl)) (by assumption) ?_
                try simp only [Act.put, List.setIfInBounds_toArray, List.set_cons_zero, List.set_cons_succ]
                refine wpAnyH_ready (rs := [6, 10, 11]) (by kernel_rfl) (by simp) ?_
                refine AllReadyH.cons (o := ⟨some 81, _, _, _, _, _⟩) rfl (fun K hK => ?_) (AllReadyH.cons (o := ⟨some 10, _, _, _, _, _⟩) rfl (fun K hK => ?_) (AllReadyH.cons (o := ⟨some 11, _, _, _, _, _⟩) rfl (fun K hK => ?_) AllReadyH.nil))
                · go_simp
                  refine (ref_Do s ci.op (by omega) (by omega) _).mono ?_
                  rintro e w5 ⟨rfl, hb5⟩
                  rw [DZ.out]
                  replace MX := Lib.hid (MX.out.call hb5)
                  clear hb5
                  go_wp2_with fail
                  refine hK.out _ _ ?_ (fun hHeldX => ?_)
                  · first | exact ⟨blk_range MX.out.ch.st, range_part (RX.out _ MX.out.ch.below) (call_op ci)⟩ | exact ⟨blk_range MO.out.ch.st, range_part (RX.out _ MO.out.ch.below) (call_op ci)⟩ | exact ⟨blk_range MD.out.ch.st, range_part (RX.out _ MD.out.ch.below) (call_op ci)⟩
                  clear hK K hHeld
                  rename _ => hHeld
                  try simp only [Act.put, List.setIfInBounds_toArray, List.set_cons_zero, List.set_cons_succ]
                  refine wpAnyH_take (i := 7) (oi := ⟨some 74, _, _, _, _, _⟩) (v := ?_) rfl (by kernel_rfl) (by kernel_rfl) (by kernel_rfl) (fun _ _ _ h => h) (Or.inl ⟨by rfl, ?_⟩) (by assumption) ?_
                  rotate_left
                  · (intro w hSw; (try dsimp only at hSw); go_simp; try with_reducible rfl)
                  try simp only [Act.put, List.setIfInBounds_toArray, List.set_cons_zero, List.set_cons_succ]
                  refine wpAnyH_take (i := 8) (oi := ⟨some 82, _, _, _, _, _⟩) (v := ?_) rfl (by kernel_rfl) (by kernel_rfl) (by kernel_rfl) (fun _ _ _ h => h) (Or.inl ⟨by rfl, ?_⟩) (by assumption) ?_
                  rotate_left
                  · (intro w hSw; (try dsimp only at hSw); go_simp; try with_reducible rfl)
                  try simp only [Act.put, List.setIfInBounds_toArray, List.set_cons_zero, List.set_cons_succ]
                  refine wpAnyH_take (i := 9) (oi := ⟨some 83, _, _, _, _, _⟩) (v := ?_) rfl (by kernel_rfl) (by kernel_rfl) (by kernel_rfl) (fun _ _ _ h => h) (Or.inl ⟨by rfl, ?_⟩) (by assumption) ?_
                  rotate_left
                  · (intro w hSw; (try dsimp only at hSw); go_simp; try with_reducible rfl)
                  try simp only [Act.put, List.setIfInBounds_toArray, List.set_cons_zero, List.set_cons_succ]
                  refine wpAnyH_ready (rs := [10, 11]) (by kernel_rfl) (by simp) ?_
                  refine AllReadyH.cons (o := ⟨some 10, _, _, _, _, _⟩) rfl (fun K hK => ?_) (AllReadyH.cons (o := ⟨some 11, _, _, _, _, _⟩) rfl (fun K hK => ?_) AllReadyH.nil)
                  · go_simp
                    replace MX := Lib.hid MX.out.new10
                    try simp only [World.size_alloc] at MX
                    try rw [show wq.drew.heap.size = wq.heap.size from rfl] at MX
                    refine hK.out _ _ ?_ (fun hHeldX => ?_)
                    · first | exact ⟨blk_range MX.out.ch.st, range_part (RX.out _ MX.out.ch.below) (call_op ci)⟩ | exact ⟨blk_range MO.out.ch.st, range_part (RX.out _ MO.out.ch.below) (call_op ci)⟩ | exact ⟨blk_range MD.out.ch.st, range_part (RX.out _ MD.out.ch.below) (call_op ci)⟩
                    clear hK K hHeld
                    rename _ => hHeld
                    try simp only [Act.put, List.setIfInBounds_toArray, List.set_cons_zero, List.set_cons_succ]
                    refine wpAnyH_ready (rs := [11]) (by kernel_rfl) (by simp) ?_
                    refine AllReadyH.cons (o := ⟨some 11, _, _, _, _, _⟩) rfl (fun K hK => ?_) AllReadyH.nil
                    go_simp
                    replace MX := Lib.hid MX.out.new11
                    try simp only [World.size_alloc] at MX
                    try rw [show wq.drew.heap.size = wq.heap.size from rfl] at MX
                    refine hK.out _ _ ?_ (fun hHeldX => ?_)
                    · first | exact ⟨blk_range MX.out.ch.st, range_part (RX.out _ MX.out.ch.below) (call_op ci)⟩ | exact ⟨blk_range MO.out.ch.st, range_part (RX.out _ MO.out.ch.below) (call_op ci)⟩ | exact ⟨blk_range MD.out.ch.st, range_part (RX.out _ MD.out.ch.below) (call_op ci)⟩
                    clear hK K hHeld
                    rename _ => hHeld
                    try simp only [Act.put, List.setIfInBounds_toArray, List.set_cons_zero, List.set_cons_succ]
                    refine wpAnyH_ready (rs := [12]) (by kernel_rfl) (by simp) ?_
                    refine AllReadyH.cons (o := ⟨none, _, _, _, _, _⟩) rfl (fun K hK => ?_) AllReadyH.nil
                    refine step_store_mid rfl 40 (.tmp 10) (.tmp 82) rfl _ 0 (stV s').toArray rfl rfl (MX.out.there10 s') (by kernel_rfl) (stV_one _) ?_
                    generalize e7 : World.setCells _ _ _ _ = w7
                    have MO := MX.out.put10 C2.out s'
                    rw [e7] at MO
                    replace MO := Lib.hid MO
                    clear MX e7
                    refine hK.out _ _ ?_ (fun hHeldX => ?_)
                    · first | exact ⟨blk_range MX.out.ch.st, range_part (RX.out _ MX.out.ch.below) (call_op ci)⟩ | exact ⟨blk_range MO.out.ch.st, range_part (RX.out _ MO.out.ch.below) (call_op ci)⟩ | exact ⟨blk_range MD.out.ch.st, range_part (RX.out _ MD.out.ch.below) (call_op ci)⟩
                    clear hK K hHeld
                    rename _ => hHeld
                    simp only [Act.put]
                    refine wpAnyH_ready (rs := [13]) (by kernel_rfl) (by simp) ?_
                    refine AllReadyH.cons (o := ⟨none, _, _, _, _, _⟩) rfl (fun K hK => ?_) AllReadyH.nil
                    refine step_store_mid rfl 32 (.tmp 11) (.tmp 83) rfl _ 0 (anV a').toArray rfl rfl (MO.out.there11 a') (by kernel_rfl) (anV_one _) ?_
                    generalize e8 : World.setCells _ _ _ _ = w8
                    have MD := MO.out.put11 C2.out a'
                    rw [e8] at MD
                    replace MD := Lib.hid MD
                    clear MO e8
                    refine hK.out _ _ ?_ (fun hHeldX => ?_)
                    · first | exact ⟨blk_range MX.out.ch.st, range_part (RX.out _ MX.out.ch.below) (call_op ci)⟩ | exact ⟨blk_range MO.out.ch.st, range_part (RX.out _ MO.out.ch.below) (call_op ci)⟩ | exact ⟨blk_range MD.out.ch.st, range_part (RX.out _ MD.out.ch.below) (call_op ci)⟩
                    clear hK K hHeld
                    rename _ => hHeld
                    simp only [Act.put]
                    refine wpAnyH_done (by kernel_rfl) ?_ _
                    refine NoPanic.normal ?_
                    go_wp2_with fail
                    go_meet
                    case rel => exact ⟨_, _, rfl, rfl, rfl, rfl, MD⟩
                  · go_simp
                    replace MX := Lib.hid MX.out.new11
                    try simp only [World.size_alloc] at MX
                    try rw [show wq.drew.heap.size = wq.heap.size from rfl] at MX
                    refine hK.out _ _ ?_ (fun hHeldX => ?_)
                    · first | exact ⟨blk_range MX.out.ch.st, range_part (RX.out _ MX.out.ch.below) (call_op ci)⟩ | exact ⟨blk_range MO.out.ch.st, range_part (RX.out _ MO.out.ch.below) (call_op ci)⟩ | exact ⟨blk_range MD.out.ch.st, range_part (RX.out _ MD.out.ch.below) (call_op ci)⟩
                    clear hK K hHeld
                    rename _ => hHeld
                    try simp only [Act.put, List.setIfInBounds_toArray, List.set_cons_zero, List.set_cons_succ]
                    refine wpAnyH_ready (rs := [10]) (by kernel_rfl) (by simp) ?_
                    refine AllReadyH.cons (o := ⟨some 10, _, _, _, _, _⟩) rfl (fun K hK => ?_) AllReadyH.nil
                    go_simp
                    replace MX := Lib.hid MX.out.new10
                    try simp only [World.size_alloc] at MX
                    try rw [show wq.drew.heap.size = wq.heap.size from rfl] at MX
                    refine hK.out _ _ ?_ (fun hHeldX => ?_)
                    · first | exact ⟨blk_range MX.out.ch.st, range_part (RX.out _ MX.out.ch.below) (call_op ci)⟩ | exact ⟨blk_range MO.out.ch.st, range_part (RX.out _ MO.out.ch.below) (call_op ci)⟩ | exact ⟨blk_range MD.out.ch.st, range_part (RX.out _ MD.out.ch.below) (call_op ci)⟩
                    clear hK K hHeld
                    rename _ => hHeld
                    try simp only [Act.put, List.setIfInBounds_toArray, List.set_cons_zero, List.set_cons_succ]
                    refine wpAnyH_ready (rs := [12]) (by kernel_rfl) (by simp) ?_
                    refine AllReadyH.cons (o := ⟨none, _, _, _, _, _⟩) rfl (fun K hK => ?_) AllReadyH.nil
                    refine step_store_mid rfl 40 (.tmp 10) (.tmp 82) rfl _ 0 (stV s').toArray rfl rfl (MX.out.there10 s') (by kernel_rfl) (stV_one _) ?_
                    generalize e7 : World.setCells _ _ _ _ = w7
                    have MO := MX.out.put10 C2.out s'
                    rw [e7] at MO
                    replace MO := Lib.hid MO
                    clear MX e7
                    refine hK.out _ _ ?_ (fun hHeldX => ?_)
                    · first | exact ⟨blk_range MX.out.ch.st, range_part (RX.out _ MX.out.ch.below) (call_op ci)⟩ | exact ⟨blk_range MO.out.ch.st, range_part (RX.out _ MO.out.ch.below) (call_op ci)⟩ | exact ⟨blk_range MD.out.ch.st, range_part (RX.out _ MD.out.ch.below) (call_op ci)⟩
                    clear hK K hHeld
                    rename _ => hHeld
                    simp only [Act.put]
                    refine wpAnyH_ready (rs := [13]) (by kernel_rfl) (by simp) ?_
                    refine AllReadyH.cons (o := ⟨none, _, _, _, _, _⟩) rfl (fun K hK => ?_) AllReadyH.nil
                    refine step_store_mid rfl 32 (.tmp 11) (.tmp 83) rfl _ 0 (anV a').toArray rfl rfl (MO.out.there11 a') (by kernel_rfl) (anV_one _) ?_
                    generalize e8 : World.setCells _ _ _ _ = w8
                    have MD := MO.out.put11 C2.out a'
                    rw [e8] at MD
                    replace MD := Lib.hid MD
                    clear MO e8
                    refine hK.out _ _ ?_ (fun hHeldX => ?_)
                    · first | exact ⟨blk_range MX.out.ch.st, range_part (RX.out _ MX.out.ch.below) (call_op ci)⟩ | exact ⟨blk_range MO.out.ch.st, range_part (RX.out _ MO.out.ch.below) (call_op ci)⟩ | exact ⟨blk_range MD.out.ch.st, range_part (RX.out _ MD.out.ch.below) (call_op ci)⟩
                    clear hK K hHeld
                    rename _ => hHeld
                    simp only [Act.put]
                    refine wpAnyH_done (by kernel_rfl) ?_ _
                    refine NoPanic.normal ?_
                    go_wp2_with fail
                    go_meet
                    case rel => exact ⟨_, _, rfl, rfl, rfl, rfl, MD⟩
                · go_simp
                  replace MX := Lib.hid MX.out.new10
                  try simp only [World.size_alloc] at MX
                  try rw [show wq.drew.heap.size = wq.heap.size from rfl] at MX
                  refine hK.out _ _ ?_ (fun hHeldX => ?_)
                  · first | exact ⟨blk_range MX.out.ch.st, range_part (RX.out _ MX.out.ch.below) (call_op ci)⟩ | exact ⟨blk_range MO.out.ch.st, range_part (RX.out _ MO.out.ch.below) (call_op ci)⟩ | exact ⟨blk_range MD.out.ch.st, range_part (RX.out _ MD.out.ch.below) (call_op ci)⟩
                  clear hK K hHeld
                  rename _ => hHeld
                  try simp only [Act.put, List.setIfInBounds_toArray, List.set_cons_zero, List.set_cons_succ]
                  refine wpAnyH_ready (rs := [6, 11]) (by kernel_rfl) (by simp) ?_
                  refine AllReadyH.cons (o := ⟨some 81, _, _, _, _, _⟩) rfl (fun K hK => ?_) (AllReadyH.cons (o := ⟨some 11, _, _, _, _, _⟩) rfl (fun K hK => ?_) AllReadyH.nil)
                  · go_simp
                    refine (ref_Do s ci.op (by omega) (by omega) _).mono ?_
                    rintro e w5 ⟨rfl, hb5⟩
                    rw [DZ.out]
                    replace MX := Lib.hid (MX.out.call hb5)
                    clear hb5
                    go_wp2_with fail
                    refine hK.out _ _ ?_ (fun hHeldX => ?_)
                    · first | exact ⟨blk_range MX.out.ch.st, range_part (RX.out _ MX.out.ch.below) (call_op ci)⟩ | exact ⟨blk_range MO.out.ch.st, range_part (RX.out _ MO.out.ch.below) (call_op ci)⟩ | exact ⟨blk_range MD.out.ch.st, range_part (RX.out _ MD.out.ch.below) (call_op ci)⟩
                    clear hK K hHeld
                    rename _ => hHeld
                    try simp only [Act.put, List.setIfInBounds_toArray, List.set_cons_zero, List.set_cons_succ]
                    refine wpAnyH_take (i := 7) (oi := ⟨some 74, _, _, _, _, _⟩) (v := ?_) rfl (by kernel_rfl) (by kernel_rfl) (by kernel_rfl) (fun _ _ _ h => h) (Or.inl ⟨by rfl, ?_⟩) (by assumption) ?_
                    rotate_left
                    · (intro w hSw; (try dsimp only at hSw); go_simp; try with_reducible rfl)
                    try simp only [Act.put, List.setIfInBounds_toArray, List.set_cons_zero, List.set_cons_succ]
                    refine wpAnyH_take (i := 8) (oi := ⟨some 82, _, _, _, _, _⟩) (v := ?_) rfl (by kernel_rfl) (by kernel_rfl) (by kernel_rfl) (fun _ _ _ h => h) (Or.inl ⟨by rfl, ?_⟩) (by assumption) ?_
                    rotate_left
                    · (intro w hSw; (try dsimp only at hSw); go_simp; try with_reducible rfl)
                    try simp only [Act.put, List.setIfInBounds_toArray, List.set_cons_zero, List.set_cons_succ]
                    refine wpAnyH_take (i := 9) (oi := ⟨some 83, _, _, _, _, _⟩) (v := ?_) rfl (by kernel_rfl) (by kernel_rfl) (by kernel_rfl) (fun _ _ _ h => h) (Or.inl ⟨by rfl, ?_⟩) (by assumption) ?_
                    rotate_left
                    · (intro w hSw; (try dsimp only at hSw); go_simp; try with_reducible rfl)
                    try simp only [Act.put, List.setIfInBounds_toArray, List.set_cons_zero, List.set_cons_succ]
                    refine wpAnyH_ready (rs := [11]) (by kernel_rfl) (by simp) ?_
                    refine AllReadyH.cons (o := ⟨some 11, _, _, _, _, _⟩) rfl (fun K hK => ?_) AllReadyH.nil
                    go_simp
                    replace MX := Lib.hid MX.out.new11
                    try simp only [World.size_alloc] at MX
                    try rw [show wq.drew.heap.size = wq.heap.size from rfl] at MX
                    refine hK.out _ _ ?_ (fun hHeldX => ?_)
                    · first | exact ⟨blk_range MX.out.ch.st, range_part (RX.out _ MX.out.ch.below) (call_op ci)⟩ | exact ⟨blk_range MO.out.ch.st, range_part (RX.out _ MO.out.ch.below) (call_op ci)⟩ | exact ⟨blk_range MD.out.ch.st, range_part (RX.out _ MD.out.ch.below) (call_op ci)⟩
                    clear hK K hHeld
                    rename _ => hHeld
                    try simp only [Act.put, List.setIfInBounds_toArray, List.set_cons_zero, List.set_cons_succ]
                    refine wpAnyH_ready (rs := [12]) (by kernel_rfl) (by simp) ?_
                    refine AllReadyH.cons (o := ⟨none, _, _, _, _, _⟩) rfl (fun K hK => ?_) AllReadyH.nil
                    refine step_store_mid rfl 40 (.tmp 10) (.tmp 82) rfl _ 0 (stV s').toArray rfl rfl (MX.out.there10 s') (by kernel_rfl) (stV_one _) ?_
                    generalize e7 : World.setCells _ _ _ _ = w7
                    have MO := MX.out.put10 C2.out s'
                    rw [e7] at MO
                    replace MO := Lib.hid MO
                    clear MX e7
                    refine hK.out _ _ ?_ (fun hHeldX => ?_)
                    · first | exact ⟨blk_range MX.out.ch.st, range_part (RX.out _ MX.out.ch.below) (call_op ci)⟩ | exact ⟨blk_range MO.out.ch.st, range_part (RX.out _ MO.out.ch.below) (call_op ci)⟩ | exact ⟨blk_range MD.out.ch.st, range_part (RX.out _ MD.out.ch.below) (call_op ci)⟩
                    clear hK K hHeld
                    rename _ => hHeld
                    simp only [Act.put]
                    refine wpAnyH_ready (rs := [13]) (by kernel_rfl) (by simp) ?_
                    refine AllReadyH.cons (o := ⟨none, _, _, _, _, _⟩) rfl (fun K hK => ?_) AllReadyH.nil
                    refine step_store_mid rfl 32 (.tmp 11) (.tmp 83) rfl _ 0 (anV a').toArray rfl rfl (MO.out.there11 a') (by kernel_rfl) (anV_one _) ?_
                    generalize e8 : World.setCells _ _ _ _ = w8
                    have MD := MO.out.put11 C2.out a'
                    rw [e8] at MD
                    replace MD := Lib.hid MD
                    clear MO e8
                    refine hK.out _ _ ?_ (fun hHeldX => ?_)
                    · first | exact ⟨blk_range MX.out.ch.st, range_part (RX.out _ MX.out.ch.below) (call_op ci)⟩ | exact ⟨blk_range MO.out.ch.st, range_part (RX.out _ MO.out.ch.below) (call_op ci)⟩ | exact ⟨blk_range MD.out.ch.st, range_part (RX.out _ MD.out.ch.below) (call_op ci)⟩
                    clear hK K hHeld
                    rename _ => hHeld
                    simp only [Act.put]
                    refine wpAnyH_done (by kernel_rfl) ?_ _
                    refine NoPanic.normal ?_
                    go_wp2_with fail
                    go_meet
                    case rel => exact ⟨_, _, rfl, rfl, rfl, rfl, MD⟩
                  · go_simp
                    replace MX := Lib.hid MX.out.new11
                    try simp only [World.size_alloc] at MX
                    try rw [show wq.drew.heap.size = wq.heap.size from rfl] at MX
                    refine hK.out _ _ ?_ (fun hHeldX => ?_)
                    · first | exact ⟨blk_range MX.out.ch.st, range_part (RX.out _ MX.out.ch.below) (call_op ci)⟩ | exact ⟨blk_range MO.out.ch.st, range_part (RX.out _ MO.out.ch.below) (call_op ci)⟩ | exact ⟨blk_range MD.out.ch.st, range_part (RX.out _ MD.out.ch.below) (call_op ci)⟩
                    clear hK K hHeld
                    rename _ => hHeld
                    try simp only [Act.put, List.setIfInBounds_toArray, List.set_cons_zero, List.set_cons_succ]
                    refine wpAnyH_ready (rs := [6]) (by kernel_rfl) (by simp) ?_
                    refine AllReadyH.cons (o := ⟨some 81, _, _, _, _, _⟩) rfl (fun K hK => ?_) AllReadyH.nil
                    go_simp
                    refine (ref_Do s ci.op (by omega) (by omega) _).mono ?_
                    rintro e w5 ⟨rfl, hb5⟩
                    rw [DZ.out]
                    replace MX := Lib.hid (MX.out.call hb5)
                    clear hb5
                    go_wp2_with fail
                    refine hK.out _ _ ?_ (fun hHeldX => ?_)
                    · first | exact ⟨blk_range MX.out.ch.st, range_part (RX.out _ MX.out.ch.below) (call_op ci)⟩ | exact ⟨blk_range MO.out.ch.st, range_part (RX.out _ MO.out.ch.below) (call_op ci)⟩ | exact ⟨blk_range MD.out.ch.st, range_part (RX.out _ MD.out.ch.below) (call_op ci)⟩
                    clear hK K hHeld
                    rename _ => hHeld
                    try simp only [Act.put, List.setIfInBounds_toArray, List.set_cons_zero, List.set_cons_succ]
                    refine wpAnyH_take (i := 7) (oi := ⟨some 74, _, _, _, _, _⟩) (v := ?_) rfl (by kernel_rfl) (by kernel_rfl) (by kernel_rfl) (fun _ _ _ h => h) (Or.inl ⟨by rfl, ?_⟩) (by assumption) ?_
                    rotate_left
                    · (intro w hSw; (try dsimp only at hSw); go_simp; try with_reducible rfl)
                    try simp only [Act.put, List.setIfInBounds_toArray, List.set_cons_zero, List.set_cons_succ]
                    refine wpAnyH_take (i := 8) (oi := ⟨some 82, _, _, _, _, _⟩) (v := ?_) rfl (by kernel_rfl) (by kernel_rfl) (by kernel_rfl) (fun _ _ _ h => h) (Or.inl ⟨by rfl, ?_⟩) (by assumption) ?_
                    rotate_left
                    · (intro w hSw; (try dsimp only at hSw); go_simp; try with_reducible rfl)
                    try simp only [Act.put, List.setIfInBounds_toArray, List.set_cons_zero, List.set_cons_succ]
                    refine wpAnyH_take (i := 9) (oi := ⟨some 83, _, _, _, _, _⟩) (v := ?_) rfl (by kernel_rfl) (by kernel_rfl) (by kernel_rfl) (fun _ _ _ h => h) (Or.inl ⟨by rfl, ?_⟩) (by assumption) ?_
                    rotate_left
                    · (intro w hSw; (try dsimp only at hSw); go_simp; try with_reducible rfl)
                    try simp only [Act.put, List.setIfInBounds_toArray, List.set_cons_zero, List.set_cons_succ]
                    refine wpAnyH_ready (rs := [12]) (by kernel_rfl) (by simp) ?_
                    refine AllReadyH.cons (o := ⟨none, _, _, _, _, _⟩) rfl (fun K hK => ?_) AllReadyH.nil
                    refine step_store_mid rfl 40 (.tmp 10) (.tmp 82) rfl _ 0 (stV s').toArray rfl rfl (MX.out.there10 s') (by kernel_rfl) (stV_one _) ?_
                    generalize e7 : World.setCells _ _ _ _ = w7
                    have MO := MX.out.put10 C2.out s'
                    rw [e7] at MO
                    replace MO := Lib.hid MO
                    clear MX e7
                    refine hK.out _ _ ?_ (fun hHeldX => ?_)
                    · first | exact ⟨blk_range MX.out.ch.st, range_part (RX.out _ MX.out.ch.below) (call_op ci)⟩ | exact ⟨blk_range MO.out.ch.st, range_part (RX.out _ MO.out.ch.below) (call_op ci)⟩ | exact ⟨blk_range MD.out.ch.st, range_part (RX.out _ MD.out.ch.below) (call_op ci)⟩
                    clear hK K hHeld
                    rename _ => hHeld
                    simp only [Act.put]
                    refine wpAnyH_ready (rs := [13]) (by kernel_rfl) (by simp) ?_
                    refine AllReadyH.cons (o := ⟨none, _, _, _, _, _⟩) rfl (fun K hK => ?_) AllReadyH.nil
                    refine step_store_mid rfl 32 (.tmp 11) (.tmp 83) rfl _ 0 (anV a').toArray rfl rfl (MO.out.there11 a') (by kernel_rfl) (anV_one _) ?_
                    generalize e8 : World.setCells _ _ _ _ = w8
                    have MD := MO.out.put11 C2.out a'
                    rw [e8] at MD
                    replace MD := Lib.hid MD
                    clear MO e8
                    refine hK.out _ _ ?_ (fun hHeldX => ?_)
                    · first | exact ⟨blk_range MX.out.ch.st, range_part (RX.out _ MX.out.ch.below) (call_op ci)⟩ | exact ⟨blk_range MO.out.ch.st, range_part (RX.out _ MO.out.ch.below) (call_op ci)⟩ | exact ⟨blk_range MD.out.ch.st, range_part (RX.out _ MD.out.ch.below) (call_op ci)⟩
                    clear hK K hHeld
                    rename _ => hHeld
                    simp only [Act.put]
                    refine wpAnyH_done (by kernel_rfl) ?_ _
                    refine NoPanic.normal ?_
                    go_wp2_with fail
                    go_meet
                    case rel => exact ⟨_, _, rfl, rfl, rfl, rfl, MD⟩
                · go_simp
                  replace MX := Lib.hid MX.out.new11
                  try simp only [World.size_alloc] at MX
                  try rw [show wq.drew.heap.size = wq.heap.size from rfl] at MX
                  refine hK.out _ _ ?_ (fun hHeldX => ?_)
                  · first | exact ⟨blk_range MX.out.ch.st, range_part (RX.out _ MX.out.ch.below) (call_op ci)⟩ | exact ⟨blk_range MO.out.ch.st, range_part (RX.out _ MO.out.ch.below) (call_op ci)⟩ | exact ⟨blk_range MD.out.ch.st, range_part (RX.out _ MD.out.ch.below) (call_op ci)⟩
                  clear hK K hHeld
                  rename _ => hHeld
                  try simp only [Act.put, List.setIfInBounds_toArray, List.set_cons_zero, List.set_cons_succ]
                  refine wpAnyH_ready (rs := [6, 10]) (by kernel_rfl) (by simp) ?_
                  refine AllReadyH.cons (o := ⟨some 81, _, _, _, _, _⟩) rfl (fun K hK => ?_) (AllReadyH.cons (o := ⟨some 10, _, _, _, _, _⟩) rfl (fun K hK => ?_) AllReadyH.nil)
                  · go_simp
                    refine (ref_Do s ci.op (by omega) (by omega) _).mono ?_
                    rintro e w5 ⟨rfl, hb5⟩
                    rw [DZ.out]
                    replace MX := Lib.hid (MX.out.call hb5)
                    clear hb5
                    go_wp2_with fail
                    refine hK.out _ _ ?_ (fun hHeldX => ?_)
                    · first | exact ⟨blk_range MX.out.ch.st, range_part (RX.out _ MX.out.ch.below) (call_op ci)⟩ | exact ⟨blk_range MO.out.ch.st, range_part (RX.out _ MO.out.ch.below) (call_op ci)⟩ | exact ⟨blk_range MD.out.ch.st, range_part (RX.out _ MD.out.ch.below) (call_op ci)⟩
                    clear hK K hHeld
                    rename _ => hHeld
                    try simp only [Act.put, List.setIfInBounds_toArray, List.set_cons_zero, List.set_cons_succ]
                    refine wpAnyH_take (i := 7) (oi := ⟨some 74, _, _, _, _, _⟩) (v := ?_) rfl (by kernel_rfl) (by kernel_rfl) (by kernel_rfl) (fun _ _ _ h => h) (Or.inl ⟨by rfl, ?_⟩) (by assumption) ?_
                    rotate_left
                    · (intro w hSw; (try dsimp only at hSw); go_simp; try with_reducible rfl)
                    try simp only [Act.put, List.setIfInBounds_toArray, List.set_cons_zero, List.set_cons_succ]
                    refine wpAnyH_take (i := 8) (oi := ⟨some 82, _, _, _, _, _⟩) (v := ?_) rfl (by kernel_rfl) (by kernel_rfl) (by kernel_rfl) (fun _ _ _ h => h) (Or.inl ⟨by rfl, ?_⟩) (by assumption) ?_
                    rotate_left
                    · (intro w hSw; (try dsimp only at hSw); go_simp; try with_reducible rfl)
                    try simp only [Act.put, List.setIfInBounds_toArray, List.set_cons_zero, List.set_cons_succ]
                    refine wpAnyH_take (i := 9) (oi := ⟨some 83, _, _, _, _, _⟩) (v := ?_) rfl (by kernel_rfl) (by kernel_rfl) (by kernel_rfl) (fun _ _ _ h => h) (Or.inl ⟨by rfl, ?_⟩) (by assumption) ?_
                    rotate_left
                    · (intro w hSw; (try dsimp only at hSw); go_simp; try with_reducible rfl)
                    try simp only [Act.put, List.setIfInBounds_toArray, List.set_cons_zero, List.set_cons_succ]
                    refine wpAnyH_ready (rs := [10]) (by kernel_rfl) (by simp) ?_
                    refine AllReadyH.cons (o := ⟨some 10, _, _, _, _, _⟩) rfl (fun K hK => ?_) AllReadyH.nil
                    go_simp
                    replace MX := Lib.hid MX.out.new10
                    try simp only [World.size_alloc] at MX
                    try rw [show wq.drew.heap.size = wq.heap.size from rfl] at MX
                    refine hK.out _ _ ?_ (fun hHeldX => ?_)
                    · first | exact ⟨blk_range MX.out.ch.st, range_part (RX.out _ MX.out.ch.below) (call_op ci)⟩ | exact ⟨blk_range MO.out.ch.st, range_part (RX.out _ MO.out.ch.below) (call_op ci)⟩ | exact ⟨blk_range MD.out.ch.st, range_part (RX.out _ MD.out.ch.below) (call_op ci)⟩
                    clear hK K hHeld
                    rename _ => hHeld
                    try simp only [Act.put, List.setIfInBounds_toArray, List.set_cons_zero, List.set_cons_succ]
                    refine wpAnyH_ready (rs := [12]) (by kernel_rfl) (by simp) ?_
                    refine AllReadyH.cons (o := ⟨none, _, _, _, _, _⟩) rfl (fun K hK => ?_) AllReadyH.nil
                    refine step_store_mid rfl 40 (.tmp 10) (.tmp 82) rfl _ 0 (stV s').toArray rfl rfl (MX.out.there10 s') (by kernel_rfl) (stV_one _) ?_
                    generalize e7 : World.setCells _ _ _ _ = w7
                    have MO := MX.out.put10 C2.out s'
                    rw [e7] at MO
                    replace MO := Lib.hid MO
                    clear MX e7
                    refine hK.out _ _ ?_ (fun hHeldX => ?_)
                    · first | exact ⟨blk_range MX.out.ch.st, range_part (RX.out _ MX.out.ch.below) (call_op ci)⟩ | exact ⟨blk_range MO.out.ch.st, range_part (RX.out _ MO.out.ch.below) (call_op ci)⟩ | exact ⟨blk_range MD.out.ch.st, range_part (RX.out _ MD.out.ch.below) (call_op ci)⟩
                    clear hK K hHeld
                    rename _ => hHeld
                    simp only [Act.put]
                    refine wpAnyH_ready (rs := [13]) (by kernel_rfl) (by simp) ?_
                    refine AllReadyH.cons (o := ⟨none, _, _, _, _, _⟩) rfl (fun K hK => ?_) AllReadyH.nil
                    refine step_store_mid rfl 32 (.tmp 11) (.tmp 83) rfl _ 0 (anV a').toArray rfl rfl (MO.out.there11 a') (by kernel_rfl) (anV_one _) ?_
                    generalize e8 : World.setCells _ _ _ _ = w8
                    have MD := MO.out.put11 C2.out a'
                    rw [e8] at MD
                    replace MD := Lib.hid MD
                    clear MO e8
                    refine hK.out _ _ ?_ (fun hHeldX => ?_)
                    · first | exact ⟨blk_range MX.out.ch.st, range_part (RX.out _ MX.out.ch.below) (call_op ci)⟩ | exact ⟨blk_range MO.out.ch.st, range_part (RX.out _ MO.out.ch.below) (call_op ci)⟩ | exact ⟨blk_range MD.out.ch.st, range_part (RX.out _ MD.out.ch.below) (call_op ci)⟩
                    clear hK K hHeld
                    rename _ => hHeld
                    simp only [Act.put]
                    refine wpAnyH_done (by kernel_rfl) ?_ _
                    refine NoPanic.normal ?_
                    go_wp2_with fail
                    go_meet
                    case rel => exact ⟨_, _, rfl, rfl, rfl, rfl, MD⟩
                  · go_simp
                    replace MX := Lib.hid MX.out.new10
                    try simp only [World.size_alloc] at MX
                    try rw [show wq.drew.heap.size = wq.heap.size from rfl] at MX
                    refine hK.out _ _ ?_ (fun hHeldX => ?_)
                    · first | exact ⟨blk_range MX.out.ch.st, range_part (RX.out _ MX.out.ch.below) (call_op ci)⟩ | exact ⟨blk_range MO.out.ch.st, range_part (RX.out _ MO.out.ch.below) (call_op ci)⟩ | exact ⟨blk_range MD.out.ch.st, range_part (RX.out _ MD.out.ch.below) (call_op ci)⟩
                    clear hK K hHeld
                    rename _ => hHeld
                    try simp only [Act.put, List.setIfInBounds_toArray, List.set_cons_zero, List.set_cons_succ]
                    refine wpAnyH_ready (rs := [6]) (by kernel_rfl) (by simp) ?_
                    refine AllReadyH.cons (o := ⟨some 81, _, _, _, _, _⟩) rfl (fun K hK => ?_) AllReadyH.nil
                    go_simp
                    refine (ref_Do s ci.op (by omega) (by omega) _).mono ?_
                    rintro e w5 ⟨rfl, hb5⟩
                    rw [DZ.out]
                    replace MX := Lib.hid (MX.out.call hb5)
                    clear hb5
                    go_wp2_with fail
                    refine hK.out _ _ ?_ (fun hHeldX => ?_)
                    · first | exact ⟨blk_range MX.out.ch.st, range_part (RX.out _ MX.out.ch.below) (call_op ci)⟩ | exact ⟨blk_range MO.out.ch.st, range_part (RX.out _ MO.out.ch.below) (call_op ci)⟩ | exact ⟨blk_range MD.out.ch.st, range_part (RX.out _ MD.out.ch.below) (call_op ci)⟩
                    clear hK K hHeld
                    rename _ => hHeld
                    try simp only [Act.put, List.setIfInBounds_toArray, List.set_cons_zero, List.set_cons_succ]
                    refine wpAnyH_take (i := 7) (oi := ⟨some 74, _, _, _, _, _⟩) (v := ?_) rfl (by kernel_rfl) (by kernel_rfl) (by kernel_rfl) (fun _ _ _ h => h) (Or.inl ⟨by rfl, ?_⟩) (by assumption) ?_
                    rotate_left
                    · (intro w hSw; (try dsimp only at hSw); go_simp; try with_reducible rfl)
                    try simp only [Act.put, List.setIfInBounds_toArray, List.set_cons_zero, List.set_cons_succ]
                    refine wpAnyH_take (i := 8) (oi := ⟨some 82, _, _, _, _, _⟩) (v := ?_) rfl (by kernel_rfl) (by kernel_rfl) (by kernel_rfl) (fun _ _ _ h => h) (Or.inl ⟨by rfl, ?_⟩) (by assumption) ?_
                    rotate_left
                    · (intro w hSw; (try dsimp only at hSw); go_simp; try with_reducible rfl)
                    try simp only [Act.put, List.setIfInBounds_toArray, List.set_cons_zero, List.set_cons_succ]
                    refine wpAnyH_take (i := 9) (oi := ⟨some 83, _, _, _, _, _⟩) (v := ?_) rfl (by kernel_rfl) (by kernel_rfl) (by kernel_rfl) (fun _ _ _ h => h) (Or.inl ⟨by rfl, ?_⟩) (by assumption) ?_
                    rotate_left
                    · (intro w hSw; (try dsimp only at hSw); go_simp; try with_reducible rfl)
                    try simp only [Act.put, List.setIfInBounds_toArray, List.set_cons_zero, List.set_cons_succ]
                    refine wpAnyH_ready (rs := [12]) (by kernel_rfl) (by simp) ?_
                    refine AllReadyH.cons (o := ⟨none, _, _, _, _, _⟩) rfl (fun K hK => ?_) AllReadyH.nil
                    refine step_store_mid rfl 40 (.tmp 10) (.tmp 82) rfl _ 0 (stV s').toArray rfl rfl (MX.out.there10 s') (by kernel_rfl) (stV_one _) ?_
                    generalize e7 : World.setCells _ _ _ _ = w7
                    have MO := MX.out.put10 C2.out s'
                    rw [e7] at MO
                    replace MO := Lib.hid MO
                    clear MX e7
                    refine hK.out _ _ ?_ (fun hHeldX => ?_)
                    · first | exact ⟨blk_range MX.out.ch.st, range_part (RX.out _ MX.out.ch.below) (call_op ci)⟩ | exact ⟨blk_range MO.out.ch.st, range_part (RX.out _ MO.out.ch.below) (call_op ci)⟩ | exact ⟨blk_range MD.out.ch.st, range_part (RX.out _ MD.out.ch.below) (call_op ci)⟩
                    clear hK K hHeld
                    rename _ => hHeld
                    simp only [Act.put]
                    refine wpAnyH_ready (rs := [13]) (by kernel_rfl) (by simp) ?_
                    refine AllReadyH.cons (o := ⟨none, _, _, _, _, _⟩) rfl (fun K hK => ?_) AllReadyH.nil
                    refine step_store_mid rfl 32 (.tmp 11) (.tmp 83) rfl _ 0 (anV a').toArray rfl rfl (MO.out.there11 a') (by kernel_rfl) (anV_one _) ?_
                    generalize e8 : World.setCells _ _ _ _ = w8
                    have MD := MO.out.put11 C2.out a'
                    rw [e8] at MD
                    replace MD := Lib.hid MD
                    clear MO e8
                    refine hK.out _ _ ?_ (fun hHeldX => ?_)
                    · first | exact ⟨blk_range MX.out.ch.st, range_part (RX.out _ MX.out.ch.below) (call_op ci)⟩ | exact ⟨blk_range MO.out.ch.st, range_part (RX.out _ MO.out.ch.below) (call_op ci)⟩ | exact ⟨blk_range MD.out.ch.st, range_part (RX.out _ MD.out.ch.below) (call_op ci)⟩
                    clear hK K hHeld
                    rename _ => hHeld
                    simp only [Act.put]
                    refine wpAnyH_done (by kernel_rfl) ?_ _
                    refine NoPanic.normal ?_
                    go_wp2_with fail
                    go_meet
                    case rel => exact ⟨_, _, rfl, rfl, rfl, rfl, MD⟩
              case rest =>
                obtain ⟨p10, p11, rfl, rfl, rfl, rfl, MD⟩ := hcut
                have hq := neq_an a' ci.an
                generalize hbv : (!decide (a' = ci.an)) = bv at hq
                have BV := Lib.hid hbv
                clear hbv
                have hgo := Lib.hid (show goOk smallM L s (i : Int) = decide (a' = ci.an) by
                  show decide ((doZ s (atZ L (i : Int)).op).2 = (atZ L (i : Int)).an) = _
                  rw [HAT.out, DZ.out])
                have hto := Lib.hid (show goTo smallM L s (i : Int) = s' by
                  show (doZ s (atZ L (i : Int)).op).1 = _
                  rw [HAT.out, DZ.out])
                have hnn := Lib.hid (doZ_n s ci.op)
                have M2 := Lib.hid MD.out.drew
                go_wp2_with fail
                refine wp_region_noPanic ?_
                refine wp_region_held_drew (S := (fun w' => w'.rangeAt p11 0 (anV a') ∧ w'.rangeAt b2 (off2 + i * 15 + 7) (anV ci.an))) (by kernel_rfl) ?_ (fun hHeld => ?_)
                · exact ⟨blk_range M2.out.b11, range_part (RX.out _ M2.out.ch.below) (call_an ci)⟩
                refine wpAnyH_take (i := 0) (oi := ⟨some 84, _, _, _, _, _⟩) (v := anA a') rfl (by kernel_rfl) (by kernel_rfl) (by kernel_rfl) (fun _ _ _ h => h) (yieldsIf_load_mid (by rfl) 32 (.tmp 11) rfl p11 0 rfl (anV a') _ (fun _ h => h.1) Try.underlying32 rfl (by kernel_rfl)) (by assumption) ?_
                try simp only [Act.put, List.setIfInBounds_toArray, List.set_cons_zero, List.set_cons_succ]
                refine wpAnyH_take (i := 1) (oi := ⟨some 85, _, _, _, _, _⟩) (v := ?_) rfl (by kernel_rfl) (by kernel_rfl) (by kernel_rfl) (fun _ _ _ h => h) (Or.inl ⟨by rfl, ?_⟩) (by assumption) ?_
                rotate_left
                · (intro w hSw; (try dsimp only at hSw); go_simp; try with_reducible rfl)
                try simp only [Act.put, List.setIfInBounds_toArray, List.set_cons_zero, List.set_cons_succ]
                refine wpAnyH_take (i := 2) (oi := ⟨some 86, _, _, _, _, _⟩) (v := ?_) rfl (by kernel_rfl) (by kernel_rfl) (by kernel_rfl) (fun _ _ _ h => h) (Or.inl ⟨by rfl, ?_⟩) (by assumption) ?_
                rotate_left
                · (intro w hSw; (try dsimp only at hSw); go_simp; try with_reducible rfl)
                try simp only [Act.put, List.setIfInBounds_toArray, List.set_cons_zero, List.set_cons_succ]
                refine wpAnyH_take (i := 3) (oi := ⟨some 87, _, _, _, _, _⟩) (v := ?_) rfl (by kernel_rfl) (by kernel_rfl) (by kernel_rfl) (fun _ _ _ h => h) (Or.inl ⟨by rfl, ?_⟩) (by assumption) ?_
                rotate_left
                · (intro w hSw; (try dsimp only at hSw); go_simp; try with_reducible rfl)
                try simp only [Act.put, List.setIfInBounds_toArray, List.set_cons_zero, List.set_cons_succ]
                refine wpAnyH_take (i := 4) (oi := ⟨some 88, _, _, _, _, _⟩) (v := ?_) rfl (by kernel_rfl) (by kernel_rfl) (by kernel_rfl) (fun _ _ _ h => h) (Or.inl ⟨by rfl, ?_⟩) (by assumption) ?_
                rotate_left
                · (intro w hSw; (try dsimp only at hSw); go_simp; try with_reducible rfl)
                try simp only [Act.put, List.setIfInBounds_toArray, List.set_cons_zero, List.set_cons_succ]
                refine wpAnyH_take (i := 5) (oi := ⟨some 89, _, _, _, _, _⟩) (v := anA ci.an) rfl (by kernel_rfl) (by kernel_rfl) (by kernel_rfl) (fun _ _ _ h => h) (yieldsIf_load_mid (by rfl) 32 (.tmp 88) rfl b2 (off2 + i * 15 + 7) rfl (anV ci.an) _ (fun _ h => h.2) Try.underlying32 rfl (by kernel_rfl)) (by assumption) ?_
                try simp only [Act.put, List.setIfInBounds_toArray, List.set_cons_zero, List.set_cons_succ]
                refine wpAnyH_take (i := 6) (oi := ⟨some 90, _, _, _, _, _⟩) (v := ?_) rfl (by kernel_rfl) (by kernel_rfl) (by kernel_rfl) (fun _ _ _ h => h) (Or.inl ⟨by rfl, ?_⟩) (by assumption) ?_
                rotate_left
                · (intro w hSw; (try dsimp only at hSw); go_simp; try with_reducible rfl)
                try simp only [Act.put, List.setIfInBounds_toArray, List.set_cons_zero, List.set_cons_succ]
                refine wpAnyH_done (by kernel_rfl) ?_ _
                refine NoPanic.normal ?_
                have RT := Lib.hid (blk_range M2.out.b10)
                cases bv with
                | false =>
                  have OK := Lib.hid (show decide (a' = ci.an) = true by have := BV.out; simpa using this)
                  have c6 : ∀ W', ChIs w W' X G L D s' (k + 1) → W'.cell? ⟨G, i, none⟩ = some (.bool (doneB D i)) ∧ W'.frozen? ⟨G, i, none⟩ = false := fun W' h => ⟨h.at hi, h.dn.frozen i⟩
                  have C6 := Lib.hid c6
                  clear c6
                  go_wp2_with (first | ((with_reducible show wpList _ _ _ (⟨some 91, _, _, _, _, _⟩ :: _) _ _); refine wpList_load_mid rfl 40 _ rfl p10 0 rfl (stV s') _ RT.out Try.underlying40 rfl (by kernel_rfl) ?_) | ((with_reducible show wpList _ _ _ (⟨none, .store 40 _ _, _, _, _, _⟩ :: _) _ _); refine wpList_store_blk rfl 40 _ _ rfl 40 X (stV s) (stV s') rfl rfl M2.out.ch.st rfl (by kernel_rfl) (stV_one _) ?_; intro w7 hB7 ho7; have N7 := Lib.hid (M2.out.ch.next hB7 ho7 (by have := hnn.out.1; rw [DZ.out] at this; exact this) (by have := hnn.out.2; rw [DZ.out] at this; exact this)); obtain ⟨c7, f7⟩ := C6.out _ N7.out; clear hB7 ho7))
                  go_roundw
                  case rel =>
                    refine ⟨k + 1, D.set i true, s', by omega, by go_num, Lib.hid (N7.out.mark i), Lib.hid ?_⟩
                    have e := ED.out
                    rw [Int.toNat_natCast, FJ.out, hgo.out, OK.out, hto.out] at e
                    rw [← e]
                    simp [hi]
                  case measure => simp [intOf]; omega
                | true =>
                  have OK := Lib.hid (show decide (a' = ci.an) = false by have := BV.out; simpa using this)
                  have hR := Lib.hid (show false = checkZ smallM L (List.replicate L.length false) st0 O by rw [← ED.out, hgo.out, OK.out]; simp)
                  go_wp2
                  go_ret
                  exact ⟨by rw [← hR.out]; rfl, M2.out.ch.below⟩
      · obtain rfl : k = L.length := by omega
        have hres := E.out
        rw [← LE.out, List.drop_length] at hres
        have HR := Lib.hid hres
        clear hres
        go_wp2
        go_ret
        exact ⟨by rw [← LE.out, ← HR.out]; rfl, C.out.below⟩
  · have hq : ((O.length : Int) != (L.length : Int)) = true := by simp; omega
    have hres : refCheckZ smallM L st0 O = false := by unfold refCheckZ; simp [hlen]
    rw [hres]
    clear hres hlen
    go_enter Try.func14, Try.ntmps14
    go_wp2
    go_ret
    exact ⟨rfl, Below.refl _ _⟩

end Go.Proofs.Ythngehpmoiojfaa
