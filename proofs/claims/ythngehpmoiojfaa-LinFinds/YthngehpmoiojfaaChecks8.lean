/- Layer 8 (package lin): eachOnce. · Layer 8 (package lin): inTime. · Layer 8 (package lin): replays. · Layer 8 (package lin): Check. -/
import Derived.Test.YthngehpmoiojfaaRefMF8
import Derived.Deep.LoopGhost
import Derived.Test.YthngehpmoiojfaaOrder8
namespace Go.Proofs.Ythngehpmoiojfaa
open Go.RowKit

theorem once_cons (n : Nat) (D : List Bool) (i : Int) (r : List Int) : onceZ n D (i :: r) = (decide (0 ≤ i) && decide (i < (n : Int)) && !doneB D i.toNat && onceZ n (D.set i.toNat true) r) := rfl
set_option maxHeartbeats 2000000 in
theorem lin_eachOnce {w : World} {ov : Value} {O : List Int} (hO : NumsF w ov O) (hOl : O.length ≤ 100000) (n : Nat) (hn : n ≤ 100000) :
    Calls Try.prog 25 #[ov, .int .i64 n] w fun e w' => e = .returned (.bool (decide (O.length = n) && onceZ n (List.replicate n false) O)) ∧ Below w.heap.size w w' := by
  obtain ⟨oa, oc, rfl, ho⟩ := hO
  have HO := Lib.hid ho
  clear ho
  by_cases hlen : O.length = n
  · have LE := Lib.hid hlen
    rw [show (decide (O.length = n) && onceZ n (List.replicate n false) O) = onceZ n (List.replicate n false) O by simp [hlen], hlen]
    clear hlen
    have hmk := run_make_recs (P := Try.prog) Try.underlying68 infoBool8 n (by omega) (by omega)
    simp only [made_bools8] at hmk
    obtain ⟨Z, hZ⟩ : ∃ Z : List Value, Z = (List.replicate n false).map Value.bool := ⟨_, rfl⟩
    rw [← hZ] at hmk
    have HZ := Lib.hid hZ
    clear hZ
    go_enter Try.func25, Try.ntmps25
    go_upto_region 4 with fail
    have C0 : Hid (Blk 4 (w.alloc (.cells Z.toArray 4)) w.heap.size ((List.replicate n false).map Value.bool) ∧ Below w.heap.size w (w.alloc (.cells Z.toArray 4))) := by
      rw [← HZ.out]
      exact Lib.hid ⟨Blk.new (l := Z), (Below.refl _ _).alloc (Nat.le_refl _) _⟩
    go_wp2_with fail
    go_loopw [16] (fun iv wr => ∃ (k : Nat) (D : List Bool), k ≤ n ∧ iv = .int .i64 k ∧ Hid (Blk 4 wr w.heap.size (D.map Value.bool) ∧ Below w.heap.size w wr) ∧ Hid (D.length = n) ∧ Hid (onceZ n D (O.drop k) = onceZ n (List.replicate n false) O)) (fun iv _ => n - (intOf iv).toNat)
    case atStart => exact ⟨0, _, Nat.zero_le _, rfl, C0, Lib.hid (by simp), Lib.hid rfl⟩
    case round =>
      obtain ⟨k, D, hk, rfl, C, DL, E⟩ := hrel
      by_cases hlt : k < n
      · have hltO : k < O.length := by rw [LE.out]; exact hlt
        obtain ⟨b, off, rfl, hb, hy⟩ := HO.out k hltO
        have hy := (C.out.2.cell (p := ⟨b, off + k, none⟩) hb).trans hy
        rw [getD_at hltO] at hy
        have hd := E.out
        rw [List.drop_eq_getElem_cons hltO, once_cons] at hd
        generalize O[k] = y at hy hd
        have ED := Lib.hid hd
        clear hd
        by_cases h0 : y < 0
        · have hR := Lib.hid (show false = onceZ n (List.replicate n false) O by rw [← ED.out]; simp [show ¬ 0 ≤ y by omega])
          go_wp2
          go_ret
          exact ⟨by rw [← hR.out]; rfl, C.out.2⟩
        by_cases h1 : (n : Int) ≤ y
        · have hR := Lib.hid (show false = onceZ n (List.replicate n false) O by rw [← ED.out]; simp [show ¬ y < (n : Int) by omega])
          go_wp2
          go_ret
          exact ⟨by rw [← hR.out]; rfl, C.out.2⟩
        obtain ⟨i, rfl⟩ : ∃ i : Nat, y = (i : Int) := ⟨y.toNat, by omega⟩
        have hi : i < n := by omega
        have hiD : i < D.length := by rw [DL.out]; exact hi
        have c6 : wr.cell? ⟨w.heap.size, i, none⟩ = some (.bool (doneB D i)) := C.out.1.at (by rw [List.getElem?_map, List.getElem?_eq_getElem hiD, doneB_at hiD]; rfl)
        have f6 := C.out.1.frozen i
        cases hdn : doneB D i with
        | true =>
          have hR := Lib.hid (show false = onceZ n (List.replicate n false) O by rw [← ED.out, Int.toNat_natCast, hdn]; simp)
          rw [hdn] at c6
          go_wp2
          go_ret
          exact ⟨by rw [← hR.out]; rfl, C.out.2⟩
        | false =>
          rw [hdn] at c6
          have N6 := Lib.hid (C.out.1.set i (.bool true))
          have O6 := Lib.hid (only_cell wr w.heap.size i (.bool true))
          have E6 := Lib.hid (show onceZ n (D.set i true) (O.drop (k + 1)) = onceZ n (List.replicate n false) O by
            have e := ED.out
            rw [Int.toNat_natCast, hdn] at e
            rw [← e]
            simp [hi])
          clear hdn hiD
          go_wp2
          go_roundw
          case rel => exact ⟨k + 1, D.set i true, by omega, by go_num, Lib.hid ⟨by rw [List.map_set]; exact N6.out, Only.below_step C.out.2.size C.out.2 O6.out (fun i hi e => by omega)⟩, Lib.hid (by simpa using DL.out), E6⟩
          case measure => simp [intOf]; omega
      · obtain rfl : k = n := by omega
        have hres := E.out
        rw [← LE.out, List.drop_length] at hres
        have HR := Lib.hid hres
        clear hres
        go_wp2
        go_ret
        exact ⟨by rw [← LE.out, ← HR.out]; rfl, C.out.2⟩
  · have hres : (decide (O.length = n) && onceZ n (List.replicate n false) O) = false := by simp [hlen]
    have hq : ((O.length : Int) != (n : Int)) = true := by simp; omega
    rw [hres]
    clear hres hlen
    go_enter Try.func25, Try.ntmps25
    go_wp2
    go_ret
    exact ⟨rfl, Below.refl _ _⟩

end Go.Proofs.Ythngehpmoiojfaa

namespace Go.Proofs.Ythngehpmoiojfaa
open Go.RowKit

theorem time_cons (L : List CallZ) (lst i : Int) (r : List Int) : timeZ L lst (i :: r) = (!decide ((atZ L i).to < lst) && timeZ L (if lst < (atZ L i).fr then (atZ L i).fr else lst) r) := rfl
def minC : CallZ := { (default : CallZ) with fr := minI }
theorem ti_keep {w W W' : World} {LB : Nat} {c : CallZ} (h : Blk 34 W LB (callV c) ∧ Below w.heap.size w W) (hb : Below W.heap.size W W') : Blk 34 W' LB (callV c) ∧ Below w.heap.size w W' :=
  ⟨h.1.below hb h.1.lt, h.2.trans (hb.mono h.2.size)⟩
set_option maxHeartbeats 4000000 in
set_option maxRecDepth 100000 in
theorem lin_inTime {w : World} {v : Value} {L : List CallZ} {ov : Value} {O : List Int} (hL : CallsIn w v L) (hO : NumsF w ov O) (hOl : O.length ≤ 100000) (hR : ∀ x ∈ O, ∃ m : Nat, x = (m : Int) ∧ m < L.length) :
    Calls Try.prog 26 #[v, ov] w fun e w' => e = .returned (.bool (timeZ L minI O)) ∧ Below w.heap.size w w' := by
  obtain ⟨a, c, rfl, hr⟩ := hL
  obtain ⟨oa, oc, rfl, ho⟩ := hO
  have H := Lib.hid hr
  have HO := Lib.hid ho
  have HR := Lib.hid hR
  clear hr ho hR
  go_enter Try.func26, Try.ntmps26
  go_upto_region 2 with fail
  obtain ⟨w0, e0⟩ : ∃ w0, w.alloc (.cells #[.int .i64 0, .int .i64 0, .int .i64 0, .int .i64 0, .string ⟨#[]⟩, .string ⟨#[]⟩, .bool false, .int .i64 0, .int .i64 0, .int .i64 0, .string ⟨#[]⟩, .string ⟨#[]⟩, .bool false, .int .i64 (-9223372036854775808), .int .i64 0] 34) = w0 := ⟨_, rfl⟩
  have C0 : Hid (Blk 34 w0 w.heap.size (callV minC) ∧ Below w.heap.size w w0) := by
    rw [← e0]
    exact Lib.hid ⟨Blk.new (l := callV minC), (Below.refl _ _).alloc (Nat.le_refl _) _⟩
  rw [e0]
  clear e0
  obtain ⟨LB, hLB⟩ : ∃ LB, w.heap.size = LB := ⟨_, rfl⟩
  rw [show (Value.pointer (some ⟨w.heap.size, 0, none⟩)) = .pointer (some ⟨LB, 0, none⟩) by rw [hLB]]
  have HLB := Lib.hid hLB
  have C0 : Hid (Blk 34 w0 LB (callV minC) ∧ Below w.heap.size w w0) := by rw [← hLB]; exact C0
  clear hLB
  go_wp2_with fail
  go_loopw [11] (fun iv wr => ∃ (k : Nat) (c : CallZ), k ≤ O.length ∧ iv = .int .i64 k ∧ Hid (Blk 34 wr LB (callV c) ∧ Below w.heap.size w wr) ∧ Hid (timeZ L c.fr (O.drop k) = timeZ L minI O)) (fun iv _ => O.length - (intOf iv).toNat)
  case atStart => exact ⟨0, minC, Nat.zero_le _, rfl, C0, Lib.hid rfl⟩
  case round =>
    obtain ⟨k, c, hk, rfl, C, E⟩ := hrel
    by_cases hlt : k < O.length
    · obtain ⟨b, off, rfl, hb, hy⟩ := HO.out k hlt
      have hy := (C.out.2.cell (p := ⟨b, off + k, none⟩) hb).trans hy
      rw [getD_at hlt] at hy
      have hd := E.out
      rw [List.drop_eq_getElem_cons hlt, time_cons] at hd
      obtain ⟨i, ei, hi⟩ := HR.out O[k] (List.getElem_mem hlt)
      rw [ei] at hy hd
      obtain ⟨b2, off2, rfl, hb2, hrgi⟩ := H.out.range hi
      rw [atZ_nat hi] at hd
      have ED := Lib.hid hd
      have RX := Lib.hid (show ∀ W, Below w.heap.size w W → W.rangeAt b2 (off2 + i * 15) (callV L[i]) from fun W hW j v hv => (hW.cell (p := ⟨b2, off2 + i * 15 + j, none⟩) hb2).trans (hrgi j v hv))
      generalize L[i] = ci at ED RX
      clear hd ei hrgi
      go_wp2_with fail
      have M4 := Lib.hid (ti_keep C.out (below_draws (Below.refl _ _) 1))
      obtain ⟨bv, hbv⟩ : ∃ bv, decide (ci.to < c.fr) = bv := ⟨_, rfl⟩
      have BV := Lib.hid hbv
      clear hbv
      refine wp_region_noPanic ?_
      refine wp_region_held_drew (S := (fun w' => w'.rangeAt b2 (off2 + i * 15) (callV ci) ∧ w'.rangeAt LB 0 (callV c))) (by kernel_rfl) ?_ (fun hHeld => ?_)
      · first | exact ⟨RX.out _ M5.out.2, blk_range M5.out.1⟩ | exact ⟨RX.out _ M4.out.2, blk_range M4.out.1⟩
      refine wpAnyH_take (i := 0) (oi := ⟨some 15, _, _, _, _, _⟩) (v := ?_) rfl (by kernel_rfl) (by kernel_rfl) (by kernel_rfl) (fun _ _ _ h => h) (Or.inl ⟨by rfl, ?_⟩) (by assumption) ?_
      rotate_left
      · (intro w hSw; (try dsimp only at hSw); go_simp; try with_reducible rfl)
      try simp only [Act.put, List.setIfInBounds_toArray, List.set_cons_zero, List.set_cons_succ]
      refine wpAnyH_take (i := 1) (oi := ⟨some 16, _, _, _, _, _⟩) (v := ?_) rfl (by kernel_rfl) (by kernel_rfl) (by kernel_rfl) (fun _ _ _ h => h) (Or.inl ⟨by rfl, ?_⟩) (by assumption) ?_
      rotate_left
      · (intro w hSw; (try dsimp only at hSw); go_simp; try with_reducible rfl)
      try simp only [Act.put, List.setIfInBounds_toArray, List.set_cons_zero, List.set_cons_succ]
      refine wpAnyH_take (i := 2) (oi := ⟨some 17, _, _, _, _, _⟩) (v := ?_) rfl (by kernel_rfl) (by kernel_rfl) (by kernel_rfl) (fun _ _ _ h => h) (Or.inl ⟨by rfl, ?_⟩) (by assumption) ?_
      rotate_left
      · (intro w hSw; (try dsimp only at hSw); go_simp; try with_reducible rfl)
      try simp only [Act.put, List.setIfInBounds_toArray, List.set_cons_zero, List.set_cons_succ]
      refine wpAnyH_take (i := 3) (oi := ⟨some 18, _, _, _, _, _⟩) (v := callA ci) rfl (by kernel_rfl) (by kernel_rfl) (by kernel_rfl) (fun _ _ _ h => h) (yieldsIf_load_mid (by rfl) 34 (.tmp 17) rfl b2 (off2 + i * 15) rfl (callV ci) _ (fun _ h => h.1) Try.underlying34 rfl (by kernel_rfl)) (by assumption) ?_
      try simp only [Act.put, List.setIfInBounds_toArray, List.set_cons_zero, List.set_cons_succ]
      refine wpAnyH_take (i := 4) (oi := ⟨some 19, _, _, _, _, _⟩) (v := callA c) rfl (by kernel_rfl) (by kernel_rfl) (by kernel_rfl) (fun _ _ _ h => h) (yieldsIf_load_mid (by rfl) 34 (.tmp 5) rfl LB 0 rfl (callV c) _ (fun _ h => h.2) Try.underlying34 rfl (by kernel_rfl)) (by assumption) ?_
      try simp only [Act.put, List.setIfInBounds_toArray, List.set_cons_zero, List.set_cons_succ]
      refine wpAnyH_ready (rs := [5]) (by kernel_rfl) (by simp) ?_
      refine AllReadyH.cons (o := ⟨some 20, _, _, _, _, _⟩) rfl (fun K hK => ?_) AllReadyH.nil
      go_simp
      refine (hist_Ahead ci c _).mono ?_
      rintro e w5 ⟨rfl, e5⟩
      rw [BV.out]
      have M5 := Lib.hid (ti_keep (W' := w5) M4.out (by rw [e5]; exact ((Below.refl _ _).alloc (Nat.le_refl _) _).alloc (by simp) _))
      clear e5
      go_wp2_with fail
      refine hK.out _ _ ?_ (fun hHeldX => ?_)
      · first | exact ⟨RX.out _ M5.out.2, blk_range M5.out.1⟩ | exact ⟨RX.out _ M4.out.2, blk_range M4.out.1⟩
      clear hK K hHeld
      rename _ => hHeld
      try simp only [Act.put, List.setIfInBounds_toArray, List.set_cons_zero, List.set_cons_succ]
      refine wpAnyH_done (by kernel_rfl) ?_ _
      refine NoPanic.normal ?_
      cases bv with
      | true =>
        have hRS := Lib.hid (show false = timeZ L minI O by rw [← ED.out, BV.out]; simp)
        go_wp2
        go_ret
        exact ⟨by rw [← hRS.out]; rfl, M5.out.2⟩
      | false =>
        have M6 := Lib.hid (ti_keep M5.out (below_draws (Below.refl _ _) 1))
        go_wp2_with fail
        refine wp_region_noPanic ?_
        refine wp_region_held_drew (S := (fun w' => w'.cell? ⟨b2, off2 + i * 15 + 13, none⟩ = some (numV ci.fr) ∧ w'.cell? ⟨LB, 13, none⟩ = some (numV c.fr))) (by kernel_rfl) ?_ (fun hHeld => ?_)
        · exact ⟨RX.out _ M6.out.2 13 _ rfl, M6.out.1.at (o := 13) rfl⟩
        refine wpAnyH_take (i := 0) (oi := ⟨some 21, _, _, _, _, _⟩) (v := ?_) rfl (by kernel_rfl) (by kernel_rfl) (by kernel_rfl) (fun _ _ _ h => h) (Or.inl ⟨by rfl, ?_⟩) (by assumption) ?_
        rotate_left
        · (intro w hSw; (try dsimp only at hSw); go_simp; try with_reducible rfl)
        try simp only [Act.put, List.setIfInBounds_toArray, List.set_cons_zero, List.set_cons_succ]
        refine wpAnyH_take (i := 1) (oi := ⟨some 22, _, _, _, _, _⟩) (v := ?_) rfl (by kernel_rfl) (by kernel_rfl) (by kernel_rfl) (fun _ _ _ h => h) (Or.inl ⟨by rfl, ?_⟩) (by assumption) ?_
        rotate_left
        · (intro w hSw; (try dsimp only at hSw); go_simp; try with_reducible rfl)
        try simp only [Act.put, List.setIfInBounds_toArray, List.set_cons_zero, List.set_cons_succ]
        refine wpAnyH_take (i := 2) (oi := ⟨some 23, _, _, _, _, _⟩) (v := ?_) rfl (by kernel_rfl) (by kernel_rfl) (by kernel_rfl) (fun _ _ _ h => h) (Or.inl ⟨by rfl, ?_⟩) (by assumption) ?_
        rotate_left
        · (intro w hSw; (try dsimp only at hSw); go_simp; try with_reducible rfl)
        try simp only [Act.put, List.setIfInBounds_toArray, List.set_cons_zero, List.set_cons_succ]
        refine wpAnyH_take (i := 3) (oi := ⟨some 24, _, _, _, _, _⟩) (v := ?_) rfl (by kernel_rfl) (by kernel_rfl) (by kernel_rfl) (fun _ _ _ h => h) (Or.inl ⟨by rfl, ?_⟩) (by assumption) ?_
        rotate_left
        · (intro w hSw; (try dsimp only at hSw); go_simp; try with_reducible rfl)
        try simp only [Act.put, List.setIfInBounds_toArray, List.set_cons_zero, List.set_cons_succ]
        refine wpAnyH_take (i := 4) (oi := ⟨some 25, _, _, _, _, _⟩) (v := ?_) rfl (by kernel_rfl) (by kernel_rfl) (by kernel_rfl) (fun _ _ _ h => h) (Or.inl ⟨by rfl, ?_⟩) (by assumption) ?_
        rotate_left
        · (intro w hSw; (try dsimp only at hSw); go_simp; try with_reducible rfl)
        try simp only [Act.put, List.setIfInBounds_toArray, List.set_cons_zero, List.set_cons_succ]
        refine wpAnyH_take (i := 5) (oi := ⟨some 26, _, _, _, _, _⟩) (v := ?_) rfl (by kernel_rfl) (by kernel_rfl) (by kernel_rfl) (fun _ _ _ h => h) (Or.inl ⟨by rfl, ?_⟩) (by assumption) ?_
        rotate_left
        · (intro w hSw; (try dsimp only at hSw); go_simp; try with_reducible rfl)
        try simp only [Act.put, List.setIfInBounds_toArray, List.set_cons_zero, List.set_cons_succ]
        refine wpAnyH_take (i := 6) (oi := ⟨some 27, _, _, _, _, _⟩) (v := ?_) rfl (by kernel_rfl) (by kernel_rfl) (by kernel_rfl) (fun _ _ _ h => h) (Or.inl ⟨by rfl, ?_⟩) (by assumption) ?_
        rotate_left
        · (intro w hSw; (try dsimp only at hSw); go_simp; try with_reducible rfl)
        try simp only [Act.put, List.setIfInBounds_toArray, List.set_cons_zero, List.set_cons_succ]
        refine wpAnyH_take (i := 7) (oi := ⟨some 28, _, _, _, _, _⟩) (v := ?_) rfl (by kernel_rfl) (by kernel_rfl) (by kernel_rfl) (fun _ _ _ h => h) (Or.inl ⟨by rfl, ?_⟩) (by assumption) ?_
        rotate_left
        · (intro w hSw; (try dsimp only at hSw); go_simp; try with_reducible rfl)
        try simp only [Act.put, List.setIfInBounds_toArray, List.set_cons_zero, List.set_cons_succ]
        refine wpAnyH_done (by kernel_rfl) ?_ _
        refine NoPanic.normal ?_
        by_cases hf : c.fr < ci.fr
        · have hf' : decide (c.fr < ci.fr) = true := by simpa using hf
          have ES := Lib.hid (show timeZ L ci.fr (O.drop (k + 1)) = timeZ L minI O by rw [← ED.out, BV.out, if_pos hf]; simp)
          have RL := Lib.hid (RX.out _ M6.out.2)
          go_wp2_with (first | ((with_reducible show wpList _ _ _ (⟨some 32, _, _, _, _, _⟩ :: _) _ _); refine wpList_load_mid rfl 34 _ rfl b2 (off2 + i * 15) rfl (callV ci) _ RL.out Try.underlying34 rfl (by kernel_rfl) ?_) | ((with_reducible show wpList _ _ _ (⟨none, .store 34 _ _, _, _, _, _⟩ :: _) _ _); refine wpList_store_blk rfl 34 _ _ rfl 34 LB (callV c) (callV ci) rfl rfl M6.out.1 rfl (by kernel_rfl) (by simp [callV, Value.oneCell']) ?_; intro w7 hB7 ho7; have N7 := Lib.hid (And.intro hB7 (Only.below_step M6.out.2.size M6.out.2 ho7 (fun i hi e => by have := HLB.out; omega))); clear hB7 ho7))
          go_roundw
          case rel => exact ⟨k + 1, ci, by omega, by go_num, N7, ES⟩
          case measure => simp [intOf]; omega
        · have hf' : decide (c.fr < ci.fr) = false := by simpa using hf
          have ES := Lib.hid (show timeZ L c.fr (O.drop (k + 1)) = timeZ L minI O by rw [← ED.out, BV.out, if_neg hf]; simp)
          go_wp2_with fail
          go_roundw
          case rel => exact ⟨k + 1, c, by omega, by go_num, M6, ES⟩
          case measure => simp [intOf]; omega
    · obtain rfl : k = O.length := by omega
      have hres := E.out
      rw [List.drop_length] at hres
      have HRS := Lib.hid hres
      clear hres
      go_wp2
      go_ret
      exact ⟨by rw [← HRS.out]; rfl, C.out.2⟩

end Go.Proofs.Ythngehpmoiojfaa

namespace Go.Proofs.Ythngehpmoiojfaa
open Go.RowKit

theorem replay_cons (L : List CallZ) (s : StZ) (i : Int) (r : List Int) : replayZ smallM L s (i :: r) = (goOk smallM L s i && replayZ smallM L (goTo smallM L s i) r) := rfl
/-- What it has in memory. -/
structure RpIs (w wr : World) (MB X : Nat) (s : StZ) (k : Nat) : Prop where
  mb : Blk 44 wr MB (mV st0)
  st : Blk 40 wr X (stV s)
  lo : -(100 * (k : Int)) ≤ s.n
  hi : s.n ≤ 100 * (k : Int)
  below : Below w.heap.size w wr
  low : w.heap.size ≤ X
/-- The state written. -/
structure RpTo (w wr : World) (MB X : Nat) (s' : StZ) : Prop where
  mb : Blk 44 wr MB (mV st0)
  st : Blk 40 wr X (stV s')
  below : Below w.heap.size w wr
theorem RpIs.keep {w wr w' : World} {MB X : Nat} {s : StZ} {k : Nat} (h : RpIs w wr MB X s k) (hb : Below wr.heap.size wr w') : RpIs w w' MB X s k :=
  ⟨h.mb.below hb h.mb.lt, h.st.below hb h.st.lt, h.lo, h.hi, h.below.trans (hb.mono h.below.size), h.low⟩
theorem RpIs.put {w wr w' : World} {MB X : Nat} {s s' : StZ} {k : Nat} (h : RpIs w wr MB X s k) (e : wr.setCells X 0 (stV s').toArray.toList = w') : RpTo w w' MB X s' := by
  obtain ⟨hb, ho⟩ := blk_wrote (l' := stV s') (by simp [stV]) h.st e
  have hne : MB ≠ X := by
    rintro rfl
    have h1 : wr.heap[MB]? = _ := h.mb
    rw [show wr.heap[MB]? = _ from h.st] at h1
    injection h1 with h1
    injection h1 with _ h1
    exact absurd h1 (by decide)
  have hl := h.low
  exact ⟨h.mb.only ho hne, hb, Only.below_step h.below.size h.below ho (fun i hi e => by omega)⟩
set_option maxHeartbeats 4000000 in
set_option maxRecDepth 100000 in
theorem lin_replays {w : World} {v : Value} {L : List CallZ} {ov : Value} {O : List Int} (hL : CallsIn w v L) (hO : NumsF w ov O) (hOl : O.length ≤ 100000) (hR : ∀ x ∈ O, ∃ m : Nat, x = (m : Int) ∧ m < L.length) :
    Calls Try.prog 27 #[mA st0, v, ov] w fun e w' => e = .returned (.bool (replayZ smallM L st0 O)) ∧ Below w.heap.size w w' := by
  obtain ⟨a, c, rfl, hr⟩ := hL
  obtain ⟨oa, oc, rfl, ho⟩ := hO
  have H := Lib.hid hr
  have HO := Lib.hid ho
  have HR := Lib.hid hR
  obtain ⟨m0, m1, m2, m3⟩ := mcells w
  clear hr ho hR
  go_enter Try.func27, Try.ntmps27
  go_upto_region 2 with fail
  obtain ⟨w0, e0⟩ : ∃ w0, (w.alloc (.cells (mV st0).toArray 44)).alloc (.cells #[.int .i64 0, .string ByteArray.empty] 40) = w0 := ⟨_, rfl⟩
  have C0 : Hid (RpIs w w0 w.heap.size (w.heap.size + 1) st0 0) := by
    rw [← e0]
    have h2 := Blk.new (W := w.alloc (.cells (mV st0).toArray 44)) (t := 40) (l := stV st0)
    exact Lib.hid ⟨(Blk.new (l := mV st0)).alloc _, (by rw [World.size_alloc] at h2; exact h2), by simp [st0], by simp [st0], ((Below.refl _ _).alloc (Nat.le_refl _) _).alloc (by simp) _, by omega⟩
  rw [e0]
  clear e0 m0 m1 m2 m3
  obtain ⟨X, hX⟩ : ∃ X, w.heap.size + 1 = X := ⟨_, rfl⟩
  rw [hX] at C0 ⊢
  obtain ⟨MB, hMB⟩ : ∃ MB, w.heap.size = MB := ⟨_, rfl⟩
  rw [show (Value.pointer (some ⟨w.heap.size, 0, none⟩)) = .pointer (some ⟨MB, 0, none⟩) by rw [hMB]]
  rw [hMB] at C0
  clear hX hMB
  go_wp2_with fail
  go_loopw [15] (fun iv wr => ∃ (k : Nat) (s : StZ), k ≤ O.length ∧ iv = .int .i64 k ∧ Hid (RpIs w wr MB X s k) ∧ Hid (replayZ smallM L s (O.drop k) = replayZ smallM L st0 O)) (fun iv _ => O.length - (intOf iv).toNat)
  case atStart => exact ⟨0, st0, Nat.zero_le _, rfl, C0, Lib.hid rfl⟩
  case round =>
    obtain ⟨k, s, hk, rfl, C, E⟩ := hrel
    by_cases hlt : k < O.length
    · obtain ⟨b, off, rfl, hb, hy⟩ := HO.out k hlt
      have hy := (C.out.below.cell (p := ⟨b, off + k, none⟩) hb).trans hy
      rw [getD_at hlt] at hy
      have hd := E.out
      rw [List.drop_eq_getElem_cons hlt, replay_cons] at hd
      obtain ⟨i, ei, hi⟩ := HR.out O[k] (List.getElem_mem hlt)
      rw [ei] at hy hd
      obtain ⟨b2, off2, rfl, hb2, hrgi⟩ := H.out.range hi
      have RX := Lib.hid (show ∀ W, Below w.heap.size w W → W.rangeAt b2 (off2 + i * 15) (callV L[i]) from fun W hW j v hv => (hW.cell (p := ⟨b2, off2 + i * 15 + j, none⟩) hb2).trans (hrgi j v hv))
      have HAT := atZ_nat hi
      generalize L[i] = ci at RX HAT
      have ED := Lib.hid hd
      have HATH := Lib.hid HAT
      have x0 := C.out.st.at (o := 0) rfl
      have x1 := C.out.st.at (o := 1) rfl
      have hlo := C.out.lo
      have hhi := C.out.hi
      have M4 := Lib.hid (C.out.keep (below_draws (Below.refl _ _) 1))
      obtain ⟨dz, hdz⟩ : ∃ dz, ((doZ s ci.op).1, decide ((doZ s ci.op).2 = ci.an)) = dz := ⟨_, rfl⟩
      obtain ⟨s', bv⟩ := dz
      simp only [Prod.mk.injEq] at hdz
      have DS := Lib.hid hdz.1
      have DB := Lib.hid hdz.2
      have hnn := Lib.hid (doZ_n s ci.op)
      have hgo := Lib.hid (show goOk smallM L s (i : Int) = bv by
        show decide ((doZ s (atZ L (i : Int)).op).2 = (atZ L (i : Int)).an) = _
        rw [HAT]; exact hdz.2)
      have hto := Lib.hid (show goTo smallM L s (i : Int) = s' by
        show (doZ s (atZ L (i : Int)).op).1 = _
        rw [HAT]; exact hdz.1)
      clear hd ei hrgi HAT hdz
      go_wp2_with fail
      refine wp_region_noPanic ?_
      refine wp_region_held_drew (S := (fun w' => w'.rangeAt MB 0 (mV st0) ∧ w'.rangeAt b2 (off2 + i * 15) (callV ci))) (by kernel_rfl) ?_ (fun hHeld => ?_)
      · first | exact ⟨blk_range M5.out.mb, RX.out _ M5.out.below⟩ | exact ⟨blk_range M4.out.mb, RX.out _ M4.out.below⟩
      refine wpAnyH_take (i := 0) (oi := ⟨some 20, _, _, _, _, _⟩) (v := mA st0) rfl (by kernel_rfl) (by kernel_rfl) (by kernel_rfl) (fun _ _ _ h => h) (yieldsIf_load_mid (by rfl) 44 (.tmp 3) rfl MB 0 rfl (mV st0) _ (fun _ h => h.1) Try.underlying44 rfl (by kernel_rfl)) (by assumption) ?_
      try simp only [Act.put, List.setIfInBounds_toArray, List.set_cons_zero, List.set_cons_succ]
      refine wpAnyH_take (i := 2) (oi := ⟨some 22, _, _, _, _, _⟩) (v := ?_) rfl (by kernel_rfl) (by kernel_rfl) (by kernel_rfl) (fun _ _ _ h => h) (Or.inl ⟨by rfl, ?_⟩) (by assumption) ?_
      rotate_left
      · (intro w hSw; (try dsimp only at hSw); go_simp; try with_reducible rfl)
      try simp only [Act.put, List.setIfInBounds_toArray, List.set_cons_zero, List.set_cons_succ]
      refine wpAnyH_take (i := 3) (oi := ⟨some 23, _, _, _, _, _⟩) (v := ?_) rfl (by kernel_rfl) (by kernel_rfl) (by kernel_rfl) (fun _ _ _ h => h) (Or.inl ⟨by rfl, ?_⟩) (by assumption) ?_
      rotate_left
      · (intro w hSw; (try dsimp only at hSw); go_simp; try with_reducible rfl)
      try simp only [Act.put, List.setIfInBounds_toArray, List.set_cons_zero, List.set_cons_succ]
      refine wpAnyH_take (i := 4) (oi := ⟨some 24, _, _, _, _, _⟩) (v := ?_) rfl (by kernel_rfl) (by kernel_rfl) (by kernel_rfl) (fun _ _ _ h => h) (Or.inl ⟨by rfl, ?_⟩) (by assumption) ?_
      rotate_left
      · (intro w hSw; (try dsimp only at hSw); go_simp; try with_reducible rfl)
      try simp only [Act.put, List.setIfInBounds_toArray, List.set_cons_zero, List.set_cons_succ]
      refine wpAnyH_take (i := 5) (oi := ⟨some 25, _, _, _, _, _⟩) (v := callA ci) rfl (by kernel_rfl) (by kernel_rfl) (by kernel_rfl) (fun _ _ _ h => h) (yieldsIf_load_mid (by rfl) 34 (.tmp 24) rfl b2 (off2 + i * 15) rfl (callV ci) _ (fun _ h => h.2) Try.underlying34 rfl (by kernel_rfl)) (by assumption) ?_
      try simp only [Act.put, List.setIfInBounds_toArray, List.set_cons_zero, List.set_cons_succ]
      refine wpAnyH_ready (rs := [1]) (by kernel_rfl) (by simp) ?_
      refine AllReadyH.cons (o := ⟨some 21, _, _, _, _, _⟩) rfl (fun K hK => ?_) AllReadyH.nil
      go_simp
      refine hK.out _ _ ?_ (fun hHeldX => ?_)
      · first | exact ⟨blk_range M5.out.mb, RX.out _ M5.out.below⟩ | exact ⟨blk_range M4.out.mb, RX.out _ M4.out.below⟩
      clear hK K hHeld
      rename _ => hHeld
      try simp only [Act.put, List.setIfInBounds_toArray, List.set_cons_zero, List.set_cons_succ]
      refine wpAnyH_ready (rs := [6]) (by kernel_rfl) (by simp) ?_
      refine AllReadyH.cons (o := ⟨some 26, _, _, _, _, _⟩) rfl (fun K hK => ?_) AllReadyH.nil
      go_simp
      refine (lin_answers st0 s ci (by omega) (by omega) _).mono ?_
      rintro e w5 ⟨rfl, hb5⟩
      rw [DS.out, DB.out]
      have M5 := Lib.hid (M4.out.keep hb5)
      clear hb5
      go_wp2_with fail
      refine hK.out _ _ ?_ (fun hHeldX => ?_)
      · first | exact ⟨blk_range M5.out.mb, RX.out _ M5.out.below⟩ | exact ⟨blk_range M4.out.mb, RX.out _ M4.out.below⟩
      clear hK K hHeld
      rename _ => hHeld
      try simp only [Act.put, List.setIfInBounds_toArray, List.set_cons_zero, List.set_cons_succ]
      refine wpAnyH_take (i := 7) (oi := ⟨some 19, _, _, _, _, _⟩) (v := ?_) rfl (by kernel_rfl) (by kernel_rfl) (by kernel_rfl) (fun _ _ _ h => h) (Or.inl ⟨by rfl, ?_⟩) (by assumption) ?_
      rotate_left
      · (intro w hSw; (try dsimp only at hSw); go_simp; try with_reducible rfl)
      try simp only [Act.put, List.setIfInBounds_toArray, List.set_cons_zero, List.set_cons_succ]
      refine wpAnyH_take (i := 8) (oi := ⟨some 27, _, _, _, _, _⟩) (v := ?_) rfl (by kernel_rfl) (by kernel_rfl) (by kernel_rfl) (fun _ _ _ h => h) (Or.inl ⟨by rfl, ?_⟩) (by assumption) ?_
      rotate_left
      · (intro w hSw; (try dsimp only at hSw); go_simp; try with_reducible rfl)
      try simp only [Act.put, List.setIfInBounds_toArray, List.set_cons_zero, List.set_cons_succ]
      refine wpAnyH_take (i := 9) (oi := ⟨some 28, _, _, _, _, _⟩) (v := ?_) rfl (by kernel_rfl) (by kernel_rfl) (by kernel_rfl) (fun _ _ _ h => h) (Or.inl ⟨by rfl, ?_⟩) (by assumption) ?_
      rotate_left
      · (intro w hSw; (try dsimp only at hSw); go_simp; try with_reducible rfl)
      try simp only [Act.put, List.setIfInBounds_toArray, List.set_cons_zero, List.set_cons_succ]
      refine wpAnyH_ready (rs := [10]) (by kernel_rfl) (by simp) ?_
      refine AllReadyH.cons (o := ⟨none, _, _, _, _, _⟩) rfl (fun K hK => ?_) AllReadyH.nil
      refine step_store_mid rfl 40 (.tmp 7) (.tmp 27) rfl X 0 (stV s').toArray rfl rfl (blk_there M5.out.st (by simp [stV])) (by kernel_rfl) (stV_one _) ?_
      generalize e7 : World.setCells _ _ _ _ = w7
      have M6 := Lib.hid (M5.out.put e7)
      clear e7
      refine hK.out _ _ ?_ (fun hHeldX => ?_)
      · exact ⟨blk_range M6.out.mb, RX.out _ M6.out.below⟩
      clear hK K hHeld
      rename _ => hHeld
      simp only [Act.put]
      refine wpAnyH_take (i := 11) (oi := ⟨some 8, _, _, _, _, _⟩) (v := ?_) rfl (by kernel_rfl) (by kernel_rfl) (by kernel_rfl) (fun _ _ _ h => h) (Or.inl ⟨by rfl, ?_⟩) (by assumption) ?_
      rotate_left
      · (intro w hSw; (try dsimp only at hSw); go_simp; try with_reducible rfl)
      try simp only [Act.put, List.setIfInBounds_toArray, List.set_cons_zero, List.set_cons_succ]
      refine wpAnyH_done (by kernel_rfl) ?_ _
      refine NoPanic.normal ?_
      cases bv with
      | false =>
        have hRS := Lib.hid (show false = replayZ smallM L st0 O by rw [← ED.out, hgo.out]; rfl)
        go_wp2
        go_ret
        exact ⟨by rw [← hRS.out]; rfl, M6.out.below⟩
      | true =>
        have ES := Lib.hid (show replayZ smallM L s' (O.drop (k + 1)) = replayZ smallM L st0 O by rw [← ED.out, hgo.out, hto.out]; rfl)
        have n1 : s.n - 99 ≤ s'.n := by have := hnn.out.1; rwa [DS.out] at this
        have n2 : s'.n ≤ s.n + 99 := by have := hnn.out.2; rwa [DS.out] at this
        have N7 : Hid (RpIs w _ MB X s' (k + 1)) := Lib.hid ⟨M6.out.mb, M6.out.st, by omega, by omega, M6.out.below, C.out.low⟩
        go_wp2_with fail
        go_roundw
        case rel => exact ⟨k + 1, s', by omega, by go_num, N7, ES⟩
        case measure => simp [intOf]; omega
    · obtain rfl : k = O.length := by omega
      have hres := E.out
      rw [List.drop_length] at hres
      have HRS := Lib.hid hres
      clear hres
      go_wp2
      go_ret
      exact ⟨by rw [← HRS.out]; rfl, C.out.below⟩

end Go.Proofs.Ythngehpmoiojfaa

namespace Go.Proofs.Ythngehpmoiojfaa
open Go.RowKit

theorem once_range (n : Nat) : ∀ (r : List Int) (D : List Bool), onceZ n D r = true → ∀ x ∈ r, ∃ m : Nat, x = (m : Int) ∧ m < n
  | [], _, _, x, hx => by simp at hx
  | i :: r, D, h, x, hx => by
    simp only [onceZ, Bool.and_eq_true, Bool.not_eq_true', decide_eq_true_eq] at h
    obtain ⟨⟨⟨h1, h2⟩, _⟩, h4⟩ := h
    rcases List.mem_cons.1 hx with rfl | hx
    · exact ⟨x.toNat, by omega, by omega⟩
    · exact once_range n r _ h4 x hx
theorem neq_do_nil (w : World) : (binOp .neq 41 (fn8 21) .nilFunc).run Try.prog w = .ok (.bool true) w := by kernel_rfl
set_option maxHeartbeats 2000000 in
theorem lin_Check {w : World} {v : Value} {L : List CallZ} {ov : Value} {O : List Int} (hL : CallsIn w v L) (hLl : L.length ≤ 100000) (hO : NumsF w ov O) (hOl : O.length ≤ 100000) :
    Calls Try.prog 13 #[mA st0, v, ov] w fun e w' => e = .returned (.bool (linCheckZ smallM L st0 O)) ∧ Below w.heap.size w w' := by
  have q1 := neq_do_nil
  obtain ⟨m0, m1, m2, m3⟩ := mcells w
  obtain ⟨wA, eA⟩ : ∃ wA, w.alloc (.cells (mV st0).toArray 44) = wA := ⟨_, rfl⟩
  have hbA : Below w.heap.size w wA := by rw [← eA]; exact (Below.refl _ _).alloc (Nat.le_refl _) _
  have MA := Lib.hid (show Blk 44 wA w.heap.size (mV st0) by rw [← eA]; exact Blk.new)
  have LA := Lib.hid (hL.below hbA)
  have OA := Lib.hid (hO.below hbA)
  obtain ⟨a, c, rfl, _⟩ := hL
  obtain ⟨oa, oc, rfl, _⟩ := hO
  have BA := Lib.hid hbA
  clear hbA
  rw [eA] at m0 m1 m2 m3
  have EA := Lib.hid eA
  clear eA
  cases h1 : decide (O.length = L.length) && onceZ L.length (List.replicate L.length false) O with
  | false =>
    have hres : linCheckZ smallM L st0 O = false := by unfold linCheckZ; rw [h1]; rfl
    rw [hres]
    have H1 := Lib.hid h1
    clear h1 hres
    go_enter Try.func13, Try.ntmps13
    go_upto_region 1 with fail
    rw [EA.out]
    go_wp2_with fail
    refine (lin_eachOnce OA.out hOl L.length hLl).mono ?_
    rintro e w1 ⟨rfl, hb1⟩
    rw [H1.out]
    have B1 := Lib.hid (BA.out.trans (hb1.mono BA.out.size))
    clear hb1
    go_wp2
    go_ret
    exact ⟨rfl, B1.out⟩
  | true =>
    have hR := Lib.hid (once_range L.length O _ (by have := h1; rw [Bool.and_eq_true] at this; exact this.2))
    have hres : linCheckZ smallM L st0 O = (timeZ L minI O && replayZ smallM L st0 O) := by unfold linCheckZ; rw [h1]; rfl
    rw [hres]
    have H1 := Lib.hid h1
    clear h1 hres
    go_enter Try.func13, Try.ntmps13
    go_upto_region 1 with fail
    rw [EA.out]
    go_wp2_with fail
    refine (lin_eachOnce OA.out hOl L.length hLl).mono ?_
    rintro e w1 ⟨rfl, hb1⟩
    rw [H1.out]
    have L1 := Lib.hid (LA.out.below hb1)
    have O1 := Lib.hid (OA.out.below hb1)
    have M1 := Lib.hid (MA.out.below hb1 MA.out.lt)
    have B1 := Lib.hid (BA.out.trans (hb1.mono BA.out.size))
    clear hb1
    go_wp2_with fail
    refine (lin_inTime L1.out O1.out hOl hR.out).mono ?_
    rintro e w2 ⟨rfl, hb2⟩
    have L2 := Lib.hid (L1.out.below hb2)
    have O2 := Lib.hid (O1.out.below hb2)
    have M2 := Lib.hid (M1.out.below hb2 M1.out.lt)
    have B2 := Lib.hid (B1.out.trans (hb2.mono B1.out.size))
    have k0 := M2.out.at (o := 0) rfl
    have k1 := M2.out.at (o := 1) rfl
    have k2 := M2.out.at (o := 2) rfl
    have k3 := M2.out.at (o := 3) rfl
    clear hb2 m0 m1 m2 m3
    obtain ⟨tv, htv⟩ : ∃ tv, timeZ L minI O = tv := ⟨_, rfl⟩
    rw [htv]
    have TV := Lib.hid htv
    clear htv
    cases tv with
    | false =>
      go_wp2
      go_ret
      exact ⟨by rw [TV.out]; rfl, B2.out⟩
    | true =>
      go_wp2_with fail
      refine (lin_replays L2.out O2.out hOl hR.out).mono ?_
      rintro e w3 ⟨rfl, hb3⟩
      have B3 := Lib.hid (B2.out.trans (hb3.mono B2.out.size))
      clear hb3
      go_wp2
      go_ret
      exact ⟨by rw [TV.out]; rfl, B3.out⟩

end Go.Proofs.Ythngehpmoiojfaa
