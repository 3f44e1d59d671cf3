/- LinFinds' walk. -/
import Derived.Test.YthngehpmoiojfaaFindsMem8
import Derived.Deep.CutRange
import Derived.Deep.CutBlock
import Derived.Test.YthngehpmoiojfaaChecks8
import Derived.Test.YthngehpmoiojfaaRefCheck8
import Derived.Test.YthngehpmoiojfaaLists
import Derived.Deep.RegionHeld3
import Derived.Deep.LoopGhost
import Derived.IntWalk
namespace Go.Proofs.Ythngehpmoiojfaa
open Go.RowKit

/-- The call that is made. -/
def mkC (k : Nat) (x : OpZ) (a : AnZ) (d : Int) : CallZ := ⟨(k : Int), 0, x, a, 100 * ((k : Int) + 1) - 10 * (d % 20) + 2000 - (k : Int), 100 * ((k : Int) + 1) + 10 * (d / 20) + 2050 + (k : Int)⟩
set_option maxRecDepth 100000 in
set_option maxHeartbeats 8000000 in
theorem finds8 {w : World} {a pa : Option Addr} {c pc : Nat} {X : List OpZ} {P : List Int} (hX : RecsIn 5 opV w a X) (hP : ListIn (Value.int .u8) w pa P) (hd : ∀ x ∈ P, 0 ≤ x ∧ x < 256) :
    Calls Try.prog 4 #[.slice a X.length c, .slice pa P.length pc] w fun e w' => e = .returned (.bool true) ∧ Below w.heap.size w w' := by
  have HX := Lib.hid hX
  have HP := Lib.hid hP
  have HD := Lib.hid hd
  clear hX hP hd
  by_cases h14 : 14 < X.length
  · generalize X.length = n at *
    have hd : decide (14 < n) = true := by simpa using h14
    go_enter Try.func4, Try.ntmps4
    go_wp2_with fail
    refine (awake8 w).mono ?_
    rintro e w1 ⟨rfl, hb⟩
    have B1 := Lib.hid hb
    clear hb
    go_wp2
    go_ret
    exact ⟨rfl, B1.out⟩
  have hd14 : decide (14 < X.length) = false := by simpa using h14
  by_cases hlen : P.length < X.length
  · generalize X.length = n at *
    generalize P.length = m at *
    have hd : decide (m < n) = true := by simpa using hlen
    go_enter Try.func4, Try.ntmps4
    go_wp2_with fail
    refine (awake8 w).mono ?_
    rintro e w1 ⟨rfl, hb⟩
    have B1 := Lib.hid hb
    clear hb
    go_wp2
    go_ret
    exact ⟨rfl, B1.out⟩
  have hdl : decide (P.length < X.length) = false := by simpa using hlen
  obtain ⟨i0, hi, hz0, hz1, hz2⟩ := info_at infoCall
  go_enter Try.func4, Try.ntmps4
  go_wp2_with fail
  refine (awake8 w).mono ?_
  rintro e w1 ⟨rfl, hb⟩
  have B1 := Lib.hid hb
  clear hb
  go_upto_region 7 with fail
  have G0 : Hid (F1 w1 (w1.alloc (.cells #[.int .i64 0, .string { data := #[] }] 40)) w1.heap.size (.slice none 0 0) 0 st0 []) :=
    Lib.hid ⟨Blk.new (l := stV st0), World.ownsRow_nil _ _ _ _, (Below.refl _ _).alloc (Nat.le_refl _) _, Nat.le_refl _, fin_start⟩
  obtain ⟨S, hS⟩ : ∃ S, w1.heap.size = S := ⟨_, rfl⟩
  have G1 : Hid (F1 w1 (w1.alloc (.cells #[.int .i64 0, .string { data := #[] }] 40)) S (.slice none 0 0) 0 st0 []) := by rw [← hS]; exact G0
  generalize w1.alloc (.cells #[.int .i64 0, .string { data := #[] }] 40) = w2 at *
  rw [hS]
  clear G0 hS
  go_wp2_with fail
  go_loopw [5, 7, 8] (fun u5 u7 _ wr => ∃ (k : Nat) (s : StZ) (L0 : List CallZ), k ≤ X.length ∧ u7 = .int .i64 k ∧ Hid (F1 w1 wr S u5 k s L0)) (fun _ u7 _ _ => X.length - (intOf u7).toNat)
  case atStart => exact ⟨0, _, _, Nat.zero_le _, rfl, G1⟩
  case round =>
    obtain ⟨k, s, L0, hk, rfl, G⟩ := hrel
    by_cases hlt : k < X.length
    · obtain ⟨b, off, rfl, hb, hx⟩ := HX.out k _ (List.getElem?_eq_getElem hlt)
      obtain ⟨pb, po, rfl, hpb, hpx⟩ := HP.out.at k (by omega)
      obtain ⟨hd0, hd1⟩ := HD.out P[k] (List.getElem_mem (by omega))
      generalize X[k] = x at hx
      generalize P[k] = d at hpx hd0 hd1
      have BW := Lib.hid (show ∀ W, Below w1.heap.size w1 W → Below w.heap.size w W from fun W h => B1.out.trans (h.mono B1.out.size))
      have XR := Lib.hid (show ∀ W, Below w1.heap.size w1 W → W.rangeAt b (off + k * 5) (opV x) from fun W h j v hv => ((BW.out W h).cell (p := ⟨b, off + k * 5 + j, none⟩) hb).trans (hx j v hv))
      have PR := Lib.hid (show ∀ W, Below w1.heap.size w1 W → W.cell? ⟨pb, po + k, none⟩ = some (.int .u8 d) from fun W h => ((BW.out W h).cell (p := ⟨pb, po + k, none⟩) hpb).trans hpx)
      have x3 : wr.cell? ⟨b, off + k * 5 + 3, none⟩ = some (.string x.p) := XR.out _ G.out.below 3 _ rfl
      clear hx hpx
      by_cases hp : x.p.size ≤ 100
      · have hps : decide (100 < x.p.size) = false := by simpa using hp
        have M4 := Lib.hid (G.out.box)
        obtain ⟨A, hA⟩ : ∃ A, wr.heap.size = A := ⟨_, rfl⟩
        rw [hA] at M4
        have HA := Lib.hid hA
        clear hA
        go_upto_region 13 with fail
        generalize hw4 : World.alloc wr _ = w4
        have M4 : Hid (F2 w1 (w4.drewN 1) S A u5 k s s an0 L0) := Lib.hid (by
          rw [← hw4]
          exact M4.out.keep (below_draws (Below.refl _ _) 1))
        rw [HA.out]
        have c0 : w4.cell? ⟨S, 0, none⟩ = some (numV s.n) := M4.out.st.at (o := 0) rfl
        have c1 : w4.cell? ⟨S, 1, none⟩ = some (.string s.slot) := M4.out.st.at (o := 1) rfl
        have hlo := M4.out.fin.ok.lo
        have hhi := M4.out.fin.ok.hi
        obtain ⟨⟨s', a'⟩, hdz⟩ : ∃ q, doZ s x = q := ⟨_, rfl⟩
        have DZ := Lib.hid hdz
        clear hw4 hdz x3
        refine wp_region_noPanic ?_
        refine wp_region_held_drew (S := (fun w' => w'.rangeAt b (off + k * 5) (opV x))) (by kernel_rfl) ?_ (fun hHeld => ?_)
        · first | exact XR.out _ M7.out.below | exact XR.out _ M6.out.below | exact XR.out _ M5.out.below | exact XR.out _ M4.out.below
        refine wpAnyH_take (i := 1) (oi := ⟨some 43, _, _, _, _, _⟩) (v := ?_) rfl (by kernel_rfl) (by kernel_rfl) (by kernel_rfl) (fun _ _ _ h => h) (Or.inl ⟨by rfl, ?_⟩) (by assumption) ?_
        rotate_left
        · (intro w hSw; (try dsimp only at hSw); go_simp; try with_reducible rfl)
        try simp only [Act.put, List.setIfInBounds_toArray, List.set_cons_zero, List.set_cons_succ]
        refine wpAnyH_take (i := 2) (oi := ⟨some 44, _, _, _, _, _⟩) (v := ?_) rfl (by kernel_rfl) (by kernel_rfl) (by kernel_rfl) (fun _ _ _ h => h) (Or.inl ⟨by rfl, ?_⟩) (by assumption) ?_
        rotate_left
        · (intro w hSw; (try dsimp only at hSw); go_simp; try with_reducible rfl)
        try simp only [Act.put, List.setIfInBounds_toArray, List.set_cons_zero, List.set_cons_succ]
        refine wpAnyH_take (i := 3) (oi := ⟨some 45, _, _, _, _, _⟩) (v := ?_) rfl (by kernel_rfl) (by kernel_rfl) (by kernel_rfl) (fun _ _ _ h => h) (Or.inl ⟨by rfl, ?_⟩) (by assumption) ?_
        rotate_left
        · (intro w hSw; (try dsimp only at hSw); go_simp; try with_reducible rfl)
        try simp only [Act.put, List.setIfInBounds_toArray, List.set_cons_zero, List.set_cons_succ]
        refine wpAnyH_take (i := 4) (oi := ⟨some 46, _, _, _, _, _⟩) (v := opA x) rfl (by kernel_rfl) (by kernel_rfl) (by kernel_rfl) (fun _ _ _ h => h) (yieldsIf_load_mid (by rfl) 27 (.tmp 45) rfl b (off + k * 5) rfl (opV x) _ (fun _ h => h) Try.underlying27 rfl (by kernel_rfl)) (by assumption) ?_
        try simp only [Act.put, List.setIfInBounds_toArray, List.set_cons_zero, List.set_cons_succ]
        refine wpAnyH_ready (rs := [0]) (by kernel_rfl) (by simp) ?_
        refine AllReadyH.cons (o := ⟨some 42, _, _, _, _, _⟩) rfl (fun K hK => ?_) AllReadyH.nil
        go_simp
        refine hK.out _ _ ?_ (fun hHeldX => ?_)
        · exact XR.out _ M4.out.below
        clear hK K hHeld
        rename _ => hHeld
        try simp only [Act.put, List.setIfInBounds_toArray, List.set_cons_zero, List.set_cons_succ]
        refine wpAnyH_ready (rs := [5]) (by kernel_rfl) (by simp) ?_
        refine AllReadyH.cons (o := ⟨some 47, _, _, _, _, _⟩) rfl (fun K hK => ?_) AllReadyH.nil
        go_simp
        refine (ref_Do s x (by omega) (by omega) _).mono ?_
        rintro e w5 ⟨rfl, hb5⟩
        rw [DZ.out]
        simp only
        have M5 := Lib.hid (M4.out.keep hb5)
        clear hb5
        go_wp2_with fail
        refine hK.out _ _ ?_ (fun hHeldX => ?_)
        · first | exact XR.out _ M7.out.below | exact XR.out _ M6.out.below | exact XR.out _ M5.out.below | exact XR.out _ M4.out.below
        clear hK K hHeld
        rename _ => hHeld
        try simp only [Act.put, List.setIfInBounds_toArray, List.set_cons_zero, List.set_cons_succ]
        refine wpAnyH_take (i := 6) (oi := ⟨some 41, _, _, _, _, _⟩) (v := ?_) rfl (by kernel_rfl) (by kernel_rfl) (by kernel_rfl) (fun _ _ _ h => h) (Or.inl ⟨by rfl, ?_⟩) (by assumption) ?_
        rotate_left
        · (intro w hSw; (try dsimp only at hSw); go_simp; try with_reducible rfl)
        try simp only [Act.put, List.setIfInBounds_toArray, List.set_cons_zero, List.set_cons_succ]
        refine wpAnyH_take (i := 7) (oi := ⟨some 48, _, _, _, _, _⟩) (v := ?_) rfl (by kernel_rfl) (by kernel_rfl) (by kernel_rfl) (fun _ _ _ h => h) (Or.inl ⟨by rfl, ?_⟩) (by assumption) ?_
        rotate_left
        · (intro w hSw; (try dsimp only at hSw); go_simp; try with_reducible rfl)
        try simp only [Act.put, List.setIfInBounds_toArray, List.set_cons_zero, List.set_cons_succ]
        refine wpAnyH_take (i := 8) (oi := ⟨some 49, _, _, _, _, _⟩) (v := ?_) rfl (by kernel_rfl) (by kernel_rfl) (by kernel_rfl) (fun _ _ _ h => h) (Or.inl ⟨by rfl, ?_⟩) (by assumption) ?_
        rotate_left
        · (intro w hSw; (try dsimp only at hSw); go_simp; try with_reducible rfl)
        try simp only [Act.put, List.setIfInBounds_toArray, List.set_cons_zero, List.set_cons_succ]
        refine wpAnyH_ready (rs := [9]) (by kernel_rfl) (by simp) ?_
        refine AllReadyH.cons (o := ⟨none, _, _, _, _, _⟩) rfl (fun K hK => ?_) AllReadyH.nil
        refine step_store_mid rfl 40 (.tmp 6) (.tmp 48) rfl S 0 (stV s').toArray rfl rfl (blk_there M5.out.st (by simp [stV])) (by kernel_rfl) (stV_one _) ?_
        generalize e7 : World.setCells _ _ _ _ = w7
        have M6 := Lib.hid (M5.out.putS e7)
        clear e7
        refine hK.out _ _ ?_ (fun hHeldX => ?_)
        · exact XR.out _ M6.out.below
        clear hK K hHeld
        rename _ => hHeld
        simp only [Act.put]
        refine wpAnyH_ready (rs := [10]) (by kernel_rfl) (by simp) ?_
        refine AllReadyH.cons (o := ⟨none, _, _, _, _, _⟩) rfl (fun K hK => ?_) AllReadyH.nil
        refine step_store_mid rfl 32 (.tmp 8) (.tmp 49) rfl A 0 (anV a').toArray rfl rfl (blk_there M6.out.an (by simp [anV])) (by kernel_rfl) (anV_one _) ?_
        generalize e8 : World.setCells _ _ _ _ = w8
        have M7 := Lib.hid (M6.out.putA e8)
        clear e8
        refine hK.out _ _ ?_ (fun hHeldX => ?_)
        · exact XR.out _ M7.out.below
        clear hK K hHeld
        rename _ => hHeld
        simp only [Act.put]
        refine wpAnyH_done (by kernel_rfl) ?_ _
        refine NoPanic.normal ?_
        go_wp2_with fail
        have M8 := Lib.hid (M7.out.keep (below_draws (Below.refl _ _) 1))
        have M9 := Lib.hid (fun ob => M8.out.keep ((Below.refl _ _).alloc (Nat.le_refl _) ob))
        have hF := Lib.hid (show Fin8 (k + 1) s' (L0 ++ [mkC k x a' d]) from by
          have h1 := M7.out.fin.snoc (c := mkC k x a' d) (by show a' = (doZ s x).2; rw [DZ.out]) (by show 100 * ((k : Int) + 1) - 10 * (d % 20) + 2000 - (k : Int) ≤ _; omega) (by show _ ≤ 100 * ((k : Int) + 1) + 10 * (d / 20) + 2050 + (k : Int); omega) hp
          have h2 : (doZ s x).1 = s' := by rw [DZ.out]
          rw [← h2]
          exact h1)
        have hl0 : L0.length = k := M7.out.fin.len
        have HL0 := Lib.hid hl0
        have hsz := M7.out.below.size
        have e1 : IntKind.i64.wrap ((k : Int) + 1) = (k : Int) + 1 := IntWalk.i64_in _ (by omega)
        have e2 : IntKind.i64.wrap (100 * ((k : Int) + 1)) = 100 * ((k : Int) + 1) := IntWalk.i64_in _ (by omega)
        have e3 : d.tmod 20 = d % 20 := Int.tmod_eq_emod_of_nonneg hd0
        have e4 : IntKind.u8.wrap (d % 20) = d % 20 := IntWalk.u8_in _ (by omega)
        have e5 : IntKind.i64.wrap (d % 20) = d % 20 := IntWalk.i64_in _ (by omega)
        have e6 : IntKind.i64.wrap (10 * (d % 20)) = 10 * (d % 20) := IntWalk.i64_in _ (by omega)
        have e7 : IntKind.i64.wrap (100 * ((k : Int) + 1) - 10 * (d % 20)) = 100 * ((k : Int) + 1) - 10 * (d % 20) := IntWalk.i64_in _ (by omega)
        have e8 : IntKind.i64.wrap (100 * ((k : Int) + 1) - 10 * (d % 20) + 2000) = 100 * ((k : Int) + 1) - 10 * (d % 20) + 2000 := IntWalk.i64_in _ (by omega)
        have e9 : IntKind.i64.wrap (100 * ((k : Int) + 1) - 10 * (d % 20) + 2000 - (k : Int)) = 100 * ((k : Int) + 1) - 10 * (d % 20) + 2000 - (k : Int) := IntWalk.i64_in _ (by omega)
        have f3 : d.tdiv 20 = d / 20 := Int.tdiv_eq_ediv_of_nonneg hd0
        have f4 : IntKind.u8.wrap (d / 20) = d / 20 := IntWalk.u8_in _ (by omega)
        have f5 : IntKind.i64.wrap (d / 20) = d / 20 := IntWalk.i64_in _ (by omega)
        have f6 : IntKind.i64.wrap (10 * (d / 20)) = 10 * (d / 20) := IntWalk.i64_in _ (by omega)
        have f7 : IntKind.i64.wrap (100 * ((k : Int) + 1) + 10 * (d / 20)) = 100 * ((k : Int) + 1) + 10 * (d / 20) := IntWalk.i64_in _ (by omega)
        have f8 : IntKind.i64.wrap (100 * ((k : Int) + 1) + 10 * (d / 20) + 2050) = 100 * ((k : Int) + 1) + 10 * (d / 20) + 2050 := IntWalk.i64_in _ (by omega)
        have f9 : IntKind.i64.wrap (100 * ((k : Int) + 1) + 10 * (d / 20) + 2050 + (k : Int)) = 100 * ((k : Int) + 1) + 10 * (d / 20) + 2050 + (k : Int) := IntWalk.i64_in _ (by omega)
        have hkP : k < P.length := by omega
        clear hl0
        refine wp_region_noPanic ?_
        refine wp_region_held_drew (S := (fun w' => w'.rangeAt b (off + k * 5) (opV x) ∧ w'.rangeAt A 0 (anV a') ∧ w'.cell? ⟨pb, po + k, none⟩ = some (.int .u8 d))) (by kernel_rfl) ?_ (fun hHeld => ?_)
        · exact ⟨XR.out _ (M8.out).below, blk_range (M8.out).an, PR.out _ (M8.out).below⟩
        refine wpAnyH_take (i := 0) (oi := ⟨some 50, _, _, _, _, _⟩) (v := ?_) rfl (by kernel_rfl) (by kernel_rfl) (by kernel_rfl) (fun _ _ _ h => h) (Or.inl ⟨by rfl, ?_⟩) (by assumption) ?_
        rotate_left
        · (intro w hSw; (try dsimp only at hSw); go_simp; try with_reducible rfl)
        try simp only [Act.put, List.setIfInBounds_toArray, List.set_cons_zero, List.set_cons_succ]
        refine wpAnyH_take (i := 1) (oi := ⟨some 51, _, _, _, _, _⟩) (v := ?_) rfl (by kernel_rfl) (by kernel_rfl) (by kernel_rfl) (fun _ _ _ h => h) (Or.inl ⟨by rfl, ?_⟩) (by assumption) ?_
        rotate_left
        · (intro w hSw; (try dsimp only at hSw); go_simp; try with_reducible rfl)
        try simp only [Act.put, List.setIfInBounds_toArray, List.set_cons_zero, List.set_cons_succ]
        refine wpAnyH_take (i := 2) (oi := ⟨some 52, _, _, _, _, _⟩) (v := ?_) rfl (by kernel_rfl) (by kernel_rfl) (by kernel_rfl) (fun _ _ _ h => h) (Or.inl ⟨by rfl, ?_⟩) (by assumption) ?_
        rotate_left
        · (intro w hSw; (try dsimp only at hSw); go_simp; try with_reducible rfl)
        try simp only [Act.put, List.setIfInBounds_toArray, List.set_cons_zero, List.set_cons_succ]
        refine wpAnyH_take (i := 3) (oi := ⟨some 53, _, _, _, _, _⟩) (v := ?_) rfl (by kernel_rfl) (by kernel_rfl) (by kernel_rfl) (fun _ _ _ h => h) (Or.inl ⟨by rfl, ?_⟩) (by assumption) ?_
        rotate_left
        · (intro w hSw; (try dsimp only at hSw); go_simp; try with_reducible rfl)
        try simp only [Act.put, List.setIfInBounds_toArray, List.set_cons_zero, List.set_cons_succ]
        refine wpAnyH_take (i := 4) (oi := ⟨some 54, _, _, _, _, _⟩) (v := ?_) rfl (by kernel_rfl) (by kernel_rfl) (by kernel_rfl) (fun _ _ _ h => h) (Or.inl ⟨by rfl, ?_⟩) (by assumption) ?_
        rotate_left
        · (intro w hSw; (try dsimp only at hSw); go_simp; try with_reducible rfl)
        try simp only [Act.put, List.setIfInBounds_toArray, List.set_cons_zero, List.set_cons_succ]
        refine wpAnyH_take (i := 5) (oi := ⟨some 55, _, _, _, _, _⟩) (v := (.agg #[.int .i64 x.k, .int .i64 x.s, .string x.t, .string x.p, .bool x.keep])) rfl (by kernel_rfl) (by kernel_rfl) (by kernel_rfl) (fun _ _ _ h => h) (yieldsIf_load_mid (by rfl) 27 (.tmp 54) rfl b (off + k * 5) rfl (opV x) _ (fun _ h => h.1) Try.underlying27 rfl (by kernel_rfl)) (by assumption) ?_
        try simp only [Act.put, List.setIfInBounds_toArray, List.set_cons_zero, List.set_cons_succ]
        refine wpAnyH_take (i := 6) (oi := ⟨some 56, _, _, _, _, _⟩) (v := (.agg #[.int .i64 a'.e, .int .i64 a'.a, .int .i64 a'.b, .string a'.t, .string a'.p, .bool a'.kept])) rfl (by kernel_rfl) (by kernel_rfl) (by kernel_rfl) (fun _ _ _ h => h) (yieldsIf_load_mid (by rfl) 32 (.tmp 8) rfl A 0 rfl (anV a') _ (fun _ h => h.2.1) Try.underlying32 rfl (by kernel_rfl)) (by assumption) ?_
        try simp only [Act.put, List.setIfInBounds_toArray, List.set_cons_zero, List.set_cons_succ]
        refine wpAnyH_take (i := 7) (oi := ⟨some 57, _, _, _, _, _⟩) (v := ?_) rfl (by kernel_rfl) (by kernel_rfl) (by kernel_rfl) (fun _ _ _ h => h) (Or.inl ⟨by rfl, ?_⟩) (by assumption) ?_
        rotate_left
        · (intro w hSw; (try dsimp only at hSw); go_simp; try with_reducible rfl)
        try simp only [Act.put, List.setIfInBounds_toArray, List.set_cons_zero, List.set_cons_succ]
        refine wpAnyH_take (i := 8) (oi := ⟨some 58, _, _, _, _, _⟩) (v := ?_) rfl (by kernel_rfl) (by kernel_rfl) (by kernel_rfl) (fun _ _ _ h => h) (Or.inl ⟨by rfl, ?_⟩) (by assumption) ?_
        rotate_left
        · (intro w hSw; (try dsimp only at hSw); go_simp; try with_reducible rfl)
        try simp only [Act.put, List.setIfInBounds_toArray, List.set_cons_zero, List.set_cons_succ]
        refine wpAnyH_take (i := 9) (oi := ⟨some 59, _, _, _, _, _⟩) (v := ?_) rfl (by kernel_rfl) (by kernel_rfl) (by kernel_rfl) (fun _ _ _ h => h) (Or.inl ⟨by rfl, ?_⟩) (by assumption) ?_
        rotate_left
        · (intro w hSw; (try dsimp only at hSw); go_simp; try with_reducible rfl)
        try simp only [Act.put, List.setIfInBounds_toArray, List.set_cons_zero, List.set_cons_succ]
        refine wpAnyH_take (i := 10) (oi := ⟨some 60, _, _, _, _, _⟩) (v := ?_) rfl (by kernel_rfl) (by kernel_rfl) (by kernel_rfl) (fun _ _ _ h => h) (Or.inl ⟨by rfl, ?_⟩) (by assumption) ?_
        rotate_left
        · (intro w hSw; (try dsimp only at hSw); go_simp; try with_reducible rfl)
        try simp only [Act.put, List.setIfInBounds_toArray, List.set_cons_zero, List.set_cons_succ]
        refine wpAnyH_take (i := 11) (oi := ⟨some 61, _, _, _, _, _⟩) (v := ?_) rfl (by kernel_rfl) (by kernel_rfl) (by kernel_rfl) (fun _ _ _ h => h) (Or.inl ⟨by rfl, ?_⟩) (by assumption) ?_
        rotate_left
        · (intro w hSw; (try dsimp only at hSw); go_simp; try with_reducible rfl)
        try simp only [Act.put, List.setIfInBounds_toArray, List.set_cons_zero, List.set_cons_succ]
        refine wpAnyH_take (i := 12) (oi := ⟨some 62, _, _, _, _, _⟩) (v := ?_) rfl (by kernel_rfl) (by kernel_rfl) (by kernel_rfl) (fun _ _ _ h => h) (Or.inl ⟨by rfl, ?_⟩) (by assumption) ?_
        rotate_left
        · (intro w hSw; (try dsimp only at hSw); go_simp; try with_reducible rfl)
        try simp only [Act.put, List.setIfInBounds_toArray, List.set_cons_zero, List.set_cons_succ]
        refine wpAnyH_take (i := 13) (oi := ⟨some 63, _, _, _, _, _⟩) (v := ?_) rfl (by kernel_rfl) (by kernel_rfl) (by kernel_rfl) (fun _ _ _ h => h) (Or.inl ⟨by rfl, ?_⟩) (by assumption) ?_
        rotate_left
        · (intro w hSw; (try dsimp only at hSw); go_simp; try with_reducible rfl)
        try simp only [Act.put, List.setIfInBounds_toArray, List.set_cons_zero, List.set_cons_succ]
        refine wpAnyH_take (i := 14) (oi := ⟨some 64, _, _, _, _, _⟩) (v := ?_) rfl (by kernel_rfl) (by kernel_rfl) (by kernel_rfl) (fun _ _ _ h => h) (Or.inl ⟨by rfl, ?_⟩) (by assumption) ?_
        rotate_left
        · (intro w hSw; (try dsimp only at hSw); go_simp; try with_reducible rfl)
        try simp only [Act.put, List.setIfInBounds_toArray, List.set_cons_zero, List.set_cons_succ]
        refine wpAnyH_take (i := 15) (oi := ⟨some 65, _, _, _, _, _⟩) (v := ?_) rfl (by kernel_rfl) (by kernel_rfl) (by kernel_rfl) (fun _ _ _ h => h) (Or.inl ⟨by rfl, ?_⟩) (by assumption) ?_
        rotate_left
        · (intro w hSw; (try dsimp only at hSw); go_simp; try with_reducible rfl)
        try simp only [Act.put, List.setIfInBounds_toArray, List.set_cons_zero, List.set_cons_succ]
        refine wpAnyH_take (i := 16) (oi := ⟨some 66, _, _, _, _, _⟩) (v := ?_) rfl (by kernel_rfl) (by kernel_rfl) (by kernel_rfl) (fun _ _ _ h => h) (Or.inl ⟨by rfl, ?_⟩) (by assumption) ?_
        rotate_left
        · (intro w hSw; (try dsimp only at hSw); go_simp; try with_reducible rfl)
        try simp only [Act.put, List.setIfInBounds_toArray, List.set_cons_zero, List.set_cons_succ]
        refine wpAnyH_take (i := 17) (oi := ⟨some 67, _, _, _, _, _⟩) (v := ?_) rfl (by kernel_rfl) (by kernel_rfl) (by kernel_rfl) (fun _ _ _ h => h) (Or.inl ⟨by rfl, ?_⟩) (by assumption) ?_
        rotate_left
        · (intro w hSw; (try dsimp only at hSw); go_simp; try with_reducible rfl)
        try simp only [Act.put, List.setIfInBounds_toArray, List.set_cons_zero, List.set_cons_succ]
        refine wpAnyH_take (i := 18) (oi := ⟨some 68, _, _, _, _, _⟩) (v := ?_) rfl (by kernel_rfl) (by kernel_rfl) (by kernel_rfl) (fun _ _ _ h => h) (Or.inl ⟨by rfl, ?_⟩) (by assumption) ?_
        rotate_left
        · (intro w hSw; (try dsimp only at hSw); go_simp; try with_reducible rfl)
        try simp only [Act.put, List.setIfInBounds_toArray, List.set_cons_zero, List.set_cons_succ]
        refine wpAnyH_take (i := 19) (oi := ⟨some 69, _, _, _, _, _⟩) (v := ?_) rfl (by kernel_rfl) (by kernel_rfl) (by kernel_rfl) (fun _ _ _ h => h) (Or.inl ⟨by rfl, ?_⟩) (by assumption) ?_
        rotate_left
        · (intro w hSw; (try dsimp only at hSw); go_simp; try with_reducible rfl)
        try simp only [Act.put, List.setIfInBounds_toArray, List.set_cons_zero, List.set_cons_succ]
        refine wpAnyH_take (i := 20) (oi := ⟨some 70, _, _, _, _, _⟩) (v := ?_) rfl (by kernel_rfl) (by kernel_rfl) (by kernel_rfl) (fun _ _ _ h => h) (Or.inl ⟨by rfl, ?_⟩) (by assumption) ?_
        rotate_left
        · (intro w hSw; (try dsimp only at hSw); go_simp; try with_reducible rfl)
        try simp only [Act.put, List.setIfInBounds_toArray, List.set_cons_zero, List.set_cons_succ]
        refine wpAnyH_take (i := 21) (oi := ⟨some 71, _, _, _, _, _⟩) (v := ?_) rfl (by kernel_rfl) (by kernel_rfl) (by kernel_rfl) (fun _ _ _ h => h) (Or.inl ⟨by rfl, ?_⟩) (by assumption) ?_
        rotate_left
        · (intro w hSw; (try dsimp only at hSw); go_simp; try with_reducible rfl)
        try simp only [Act.put, List.setIfInBounds_toArray, List.set_cons_zero, List.set_cons_succ]
        refine wpAnyH_take (i := 22) (oi := ⟨some 72, _, _, _, _, _⟩) (v := ?_) rfl (by kernel_rfl) (by kernel_rfl) (by kernel_rfl) (fun _ _ _ h => h) (Or.inl ⟨by rfl, ?_⟩) (by assumption) ?_
        rotate_left
        · (intro w hSw; (try dsimp only at hSw); go_simp; try with_reducible rfl)
        try simp only [Act.put, List.setIfInBounds_toArray, List.set_cons_zero, List.set_cons_succ]
        refine wpAnyH_take (i := 23) (oi := ⟨some 73, _, _, _, _, _⟩) (v := ?_) rfl (by kernel_rfl) (by kernel_rfl) (by kernel_rfl) (fun _ _ _ h => h) (Or.inl ⟨by rfl, ?_⟩) (by assumption) ?_
        rotate_left
        · (intro w hSw; (try dsimp only at hSw); go_simp; try with_reducible rfl)
        try simp only [Act.put, List.setIfInBounds_toArray, List.set_cons_zero, List.set_cons_succ]
        refine wpAnyH_take (i := 24) (oi := ⟨some 74, _, _, _, _, _⟩) (v := ?_) rfl (by kernel_rfl) (by kernel_rfl) (by kernel_rfl) (fun _ _ _ h => h) (Or.inl ⟨by rfl, ?_⟩) (by assumption) ?_
        rotate_left
        · (intro w hSw; (try dsimp only at hSw); go_simp; try with_reducible rfl)
        try simp only [Act.put, List.setIfInBounds_toArray, List.set_cons_zero, List.set_cons_succ]
        refine wpAnyH_take (i := 25) (oi := ⟨some 75, _, _, _, _, _⟩) (v := ?_) rfl (by kernel_rfl) (by kernel_rfl) (by kernel_rfl) (fun _ _ _ h => h) (Or.inl ⟨by rfl, ?_⟩) (by assumption) ?_
        rotate_left
        · (intro w hSw; (try dsimp only at hSw); go_simp; try with_reducible rfl)
        try simp only [Act.put, List.setIfInBounds_toArray, List.set_cons_zero, List.set_cons_succ]
        refine wpAnyH_take (i := 26) (oi := ⟨some 76, _, _, _, _, _⟩) (v := ?_) rfl (by kernel_rfl) (by kernel_rfl) (by kernel_rfl) (fun _ _ _ h => h) (Or.inl ⟨by rfl, ?_⟩) (by assumption) ?_
        rotate_left
        · (intro w hSw; (try dsimp only at hSw); go_simp; try with_reducible rfl)
        try simp only [Act.put, List.setIfInBounds_toArray, List.set_cons_zero, List.set_cons_succ]
        refine wpAnyH_take (i := 27) (oi := ⟨some 77, _, _, _, _, _⟩) (v := ?_) rfl (by kernel_rfl) (by kernel_rfl) (by kernel_rfl) (fun _ _ _ h => h) (Or.inl ⟨by rfl, ?_⟩) (by assumption) ?_
        rotate_left
        · (intro w hSw; (try dsimp only at hSw); go_simp; try with_reducible rfl)
        try simp only [Act.put, List.setIfInBounds_toArray, List.set_cons_zero, List.set_cons_succ]
        refine wpAnyH_take (i := 28) (oi := ⟨some 78, _, _, _, _, _⟩) (v := ?_) rfl (by kernel_rfl) (by kernel_rfl) (by kernel_rfl) (fun _ _ _ h => h) (Or.inl ⟨by rfl, ?_⟩) (by assumption) ?_
        rotate_left
        · (intro w hSw; (try dsimp only at hSw); go_simp; try with_reducible rfl)
        try simp only [Act.put, List.setIfInBounds_toArray, List.set_cons_zero, List.set_cons_succ]
        refine wpAnyH_take (i := 29) (oi := ⟨some 79, _, _, _, _, _⟩) (v := ?_) rfl (by kernel_rfl) (by kernel_rfl) (by kernel_rfl) (fun _ _ _ h => h) (Or.inl ⟨by rfl, ?_⟩) (by assumption) ?_
        rotate_left
        · (intro w hSw; (try dsimp only at hSw); go_simp; try with_reducible rfl)
        try simp only [Act.put, List.setIfInBounds_toArray, List.set_cons_zero, List.set_cons_succ]
        refine wpAnyH_take (i := 30) (oi := ⟨some 80, _, _, _, _, _⟩) (v := ?_) rfl (by kernel_rfl) (by kernel_rfl) (by kernel_rfl) (fun _ _ _ h => h) (Or.inl ⟨by rfl, ?_⟩) (by assumption) ?_
        rotate_left
        · (intro w hSw; (try dsimp only at hSw); go_simp; try with_reducible rfl)
        try simp only [Act.put, List.setIfInBounds_toArray, List.set_cons_zero, List.set_cons_succ]
        refine wpAnyH_take (i := 31) (oi := ⟨some 81, _, _, _, _, _⟩) (v := ?_) rfl (by kernel_rfl) (by kernel_rfl) (by kernel_rfl) (fun _ _ _ h => h) (Or.inl ⟨by rfl, ?_⟩) (by assumption) ?_
        rotate_left
        · (intro w hSw; (try dsimp only at hSw); go_simp; try with_reducible rfl)
        try simp only [Act.put, List.setIfInBounds_toArray, List.set_cons_zero, List.set_cons_succ]
        refine wpAnyH_take (i := 32) (oi := ⟨some 82, _, _, _, _, _⟩) (v := ?_) rfl (by kernel_rfl) (by kernel_rfl) (by kernel_rfl) (fun _ _ _ h => h) (Or.inl ⟨by rfl, ?_⟩) (by assumption) ?_
        rotate_left
        · (intro w hSw; (try dsimp only at hSw); go_simp; try with_reducible rfl)
        try simp only [Act.put, List.setIfInBounds_toArray, List.set_cons_zero, List.set_cons_succ]
        refine wpAnyH_take (i := 33) (oi := ⟨some 83, _, _, _, _, _⟩) (v := ?_) rfl (by kernel_rfl) (by kernel_rfl) (by kernel_rfl) (fun _ _ _ h => h) (Or.inl ⟨by rfl, ?_⟩) (by assumption) ?_
        rotate_left
        · (intro w hSw; (try dsimp only at hSw); go_simp; try with_reducible rfl)
        try simp only [Act.put, List.setIfInBounds_toArray, List.set_cons_zero, List.set_cons_succ]
        refine wpAnyH_take (i := 34) (oi := ⟨some 84, _, _, _, _, _⟩) (v := ?_) rfl (by kernel_rfl) (by kernel_rfl) (by kernel_rfl) (fun _ _ _ h => h) (Or.inl ⟨by rfl, ?_⟩) (by assumption) ?_
        rotate_left
        · (intro w hSw; (try dsimp only at hSw); go_simp; try with_reducible rfl)
        try simp only [Act.put, List.setIfInBounds_toArray, List.set_cons_zero, List.set_cons_succ]
        refine wpAnyH_take (i := 35) (oi := ⟨some 85, _, _, _, _, _⟩) (v := ?_) rfl (by kernel_rfl) (by kernel_rfl) (by kernel_rfl) (fun _ _ _ h => h) (Or.inl ⟨by rfl, ?_⟩) (by assumption) ?_
        rotate_left
        · (intro w hSw; (try dsimp only at hSw); go_simp; try with_reducible rfl)
        try simp only [Act.put, List.setIfInBounds_toArray, List.set_cons_zero, List.set_cons_succ]
        refine wpAnyH_ready (rs := [36]) (by kernel_rfl) (by simp) ?_
        refine AllReadyH.cons (o := ⟨some 86, _, _, _, _, _⟩) rfl (fun K hK => ?_) AllReadyH.nil
        go_simp
        refine hK.out _ _ ?_ (fun hHeldX => ?_)
        · exact ⟨XR.out _ (M9.out _).below, blk_range (M9.out _).an, PR.out _ (M9.out _).below⟩
        clear hK K hHeld
        rename _ => hHeld
        try simp only [Act.put, List.setIfInBounds_toArray, List.set_cons_zero, List.set_cons_succ]
        refine wpAnyH_ready (rs := [37]) (by kernel_rfl) (by simp) ?_
        refine AllReadyH.cons (o := ⟨some 87, _, _, _, _, _⟩) rfl (fun K hK => ?_) AllReadyH.nil
        refine step_append_lies _ rfl (.tmp 50) (.tmp 86) 22 rfl w1.heap.size 34 i0 (callA default) 15 152 Try.underlying22 hi hz0 hz1 hz2 rfl (by decide) _ _ _ rfl (M8.out.own.alloc _) ⟨w8.heap.size, 0, none⟩ 1 1 (callV (mkC k x a' d)) rfl rfl (World.news_of_block (Blk.new (l := callV (mkC k x a' d)))) (by simp [callV, Value.oneCell']) (by decide) (by rw [HL0.out]; simp only [maxLen]; omega) (by rw [HL0.out]; omega) (by simp; omega) (w8.heap.size + 1) (by simp) ?_
        intro g9 cap9 w9 hown hgrow hlie hlt9
        have E9 := Lib.hid (M8.out.add hgrow hown hF.out)
        have R9 := Lib.hid (M8.out.rest hgrow)
        clear hown hgrow hlie hlt9
        refine hK.out _ _ ?_ (fun hHeldX => ?_)
        · exact ⟨XR.out _ R9.out.2, blk_range R9.out.1, PR.out _ R9.out.2⟩
        clear hK K hHeld
        rename _ => hHeld
        try simp only [Act.put, List.setIfInBounds_toArray, List.set_cons_zero, List.set_cons_succ]
        refine wpAnyH_take (i := 38) (oi := ⟨some 5, _, _, _, _, _⟩) (v := ?_) rfl (by kernel_rfl) (by kernel_rfl) (by kernel_rfl) (fun _ _ _ h => h) (Or.inl ⟨by rfl, ?_⟩) (by assumption) ?_
        rotate_left
        · (intro w hSw; (try dsimp only at hSw); go_simp; try with_reducible rfl)
        try simp only [Act.put, List.setIfInBounds_toArray, List.set_cons_zero, List.set_cons_succ]
        refine wpAnyH_done (by kernel_rfl) ?_ _
        refine NoPanic.normal ?_
        go_wp2_with fail
        go_roundw
        case rel => exact ⟨k + 1, s', _, by omega, by go_num, E9⟩
        case measure => simp [intOf]; omega
      · have hps : decide (100 < x.p.size) = true := by simpa using hp
        have BE := Lib.hid (BW.out _ G.out.below)
        go_wp2
        go_ret
        exact ⟨rfl, BE.out⟩
    · have hkX : k = X.length := by omega
      have hk14 : k ≤ 14 := by omega
      have HKX := Lib.hid hkX
      clear hkX
      have FIN := Lib.hid G.out.fin
      obtain ⟨la, lc, le⟩ := own_form G.out.own
      rw [G.out.fin.len] at le
      subst le
      have H4 : Hid (F4 w1 wr (.slice la k lc) L0 L0) := Lib.hid ⟨G.out.own, G.out.below, rfl, _, listed_self L0⟩
      clear G G1 HX HP HD hd14 hdl
      generalize wr = w3 at *
      go_wp2_with fail
      go_loopw [9, 10, 11, 12] (fun u9 _ _ _ wr => ∃ (i : Nat) (Lc : List CallZ), 1 ≤ i ∧ i ≤ k + 1 ∧ u9 = .int .i64 i ∧ Hid (F4 w1 wr (.slice la k lc) L0 Lc)) (fun u9 _ _ _ _ => (k + 1) - (intOf u9).toNat)
      case atStart => exact ⟨1, L0, Nat.le_refl _, by omega, rfl, H4⟩
      case round =>
        obtain ⟨i, Lc, hi1, hik, rfl, F⟩ := hrel
        clear H4
        by_cases hik2 : i < k
        · go_wp2_with fail
          go_loopw [10, 11, 12] (fun u10 _ _ wr => ∃ (j : Nat) (Lc : List CallZ), j ≤ i ∧ u10 = .int .i64 j ∧ Hid (F4 w1 wr (.slice la k lc) L0 Lc)) (fun u10 _ _ _ => (intOf u10).toNat)
          case atStart => exact ⟨i, Lc, Nat.le_refl _, rfl, F⟩
          case round =>
            clear F
            obtain ⟨j, Lc, hji, rfl, F⟩ := hrel
            cases j with
            | zero =>
              rw [show (((0 : Nat) : Nat) : Int) = 0 from rfl]
              go_wp2_with fail
              go_quiet (fail)
              go_wp2_with fail
              go_roundw
              case rel => exact ⟨i + 1, Lc, by omega, by omega, by go_num, Lib.hid (F.out.keep (below_draws (Below.refl _ _) _))⟩
              case measure => simp [intOf]; omega
            | succ j =>
              have hlen : Lc.length = k := by rw [F.out.len]; exact FIN.out.len
              have hj0 : j < Lc.length := by omega
              have hj1 : j + 1 < Lc.length := by omega
              obtain ⟨GB, gcap, eg, hgl, hgw, hrg, hth⟩ := F.out.at hj0
              obtain rfl : la = some ⟨GB, 0, none⟩ := by injection eg
              have c0 : wr.cell? ⟨GB, j * 15 + 13, none⟩ = some (numV Lc[j].fr) := hrg j hj0 13 _ rfl
              have c1 : wr.cell? ⟨GB, (j + 1) * 15 + 13, none⟩ = some (numV Lc[j + 1].fr) := hrg (j + 1) hj1 13 _ rfl
              have RX := Lib.hid (hrg j hj0)
              have RY := Lib.hid (hrg (j + 1) hj1)
              have TX := Lib.hid (hth j hj0)
              have TY := Lib.hid (hth (j + 1) hj1)
              have HY0 := Lib.hid (show Lc[j]? = some Lc[j] ∧ Lc[j + 1]? = some Lc[j + 1] from ⟨List.getElem?_eq_getElem hj0, List.getElem?_eq_getElem hj1⟩)
              clear hrg hth eg hlen
              generalize Lc[j] = y1 at *
              generalize Lc[j + 1] = y2 at *
              by_cases hc : y2.fr < y1.fr
              · have hq : decide (y2.fr < y1.fr) = true := by simpa using hc
                go_wp2_with fail
                go_quiet (fail)
                go_wp2_with fail
                have N9 := Lib.hid (F.out.keep (below_draws (Below.refl _ _) nq))
                clear c0 c1 hq
                have hjk : j < k := by omega
                have hjk1 : j + 1 < k := by omega
                have hjk2 : 0 ≤ (j : Int) + 1 := by omega
                have hjk3 : (j : Int) + 1 < (k : Int) := by omega
                have hwj : IntKind.i64.wrap (j : Int) = (j : Int) := IntWalk.i64_in _ (by omega)
                go_cut [11, 12] from 113 to 121 (fun u11 u12 wx => ∃ (Bx By : Nat), u11 = .pointer (some ⟨Bx, 0, none⟩) ∧ u12 = .pointer (some ⟨By, 0, none⟩) ∧ Hid (F5 w1 wx (.slice (some ⟨GB, 0, none⟩) k lc) GB Bx By L0 Lc y1 y2) ∧ Hid (Lc[j]? = some y1 ∧ Lc[j + 1]? = some y2))
                case first =>
                  refine wp_region_noPanic ?_
                  refine wp_region_held_drew (S := (fun w' => w'.rangeAt GB (j * 15) (callV y1) ∧ w'.rangeAt GB ((j + 1) * 15) (callV y2))) (by kernel_rfl) ?_ (fun hHeld => ?_)
                  · exact ⟨cell_rng RX.out (below_draws (below_draws (Below.refl _ _) _) 1), cell_rng RY.out (below_draws (below_draws (Below.refl _ _) _) 1)⟩
                  refine wpAnyH_take (i := 0) (oi := ⟨some 113, _, _, _, _, _⟩) (v := ?_) rfl (by kernel_rfl) (by kernel_rfl) (by kernel_rfl) (fun _ _ _ h => h) (Or.inl ⟨by rfl, ?_⟩) (by assumption) ?_
                  rotate_left
                  · (intro w hSw; (try dsimp only at hSw); go_simp; try with_reducible rfl)
                  try simp only [Act.put, List.setIfInBounds_toArray, List.set_cons_zero, List.set_cons_succ]
                  refine wpAnyH_take (i := 1) (oi := ⟨some 114, _, _, _, _, _⟩) (v := ?_) rfl (by kernel_rfl) (by kernel_rfl) (by kernel_rfl) (fun _ _ _ h => h) (Or.inl ⟨by rfl, ?_⟩) (by assumption) ?_
                  rotate_left
                  · (intro w hSw; (try dsimp only at hSw); go_simp; try with_reducible rfl)
                  try simp only [Act.put, List.setIfInBounds_toArray, List.set_cons_zero, List.set_cons_succ]
                  refine wpAnyH_take (i := 2) (oi := ⟨some 115, _, _, _, _, _⟩) (v := ?_) rfl (by kernel_rfl) (by kernel_rfl) (by kernel_rfl) (fun _ _ _ h => h) (Or.inl ⟨by rfl, ?_⟩) (by assumption) ?_
                  rotate_left
                  · (intro w hSw; (try dsimp only at hSw); go_simp; try with_reducible rfl)
                  try simp only [Act.put, List.setIfInBounds_toArray, List.set_cons_zero, List.set_cons_succ]
                  refine wpAnyH_take (i := 3) (oi := ⟨some 116, _, _, _, _, _⟩) (v := ?_) rfl (by kernel_rfl) (by kernel_rfl) (by kernel_rfl) (fun _ _ _ h => h) (Or.inl ⟨by rfl, ?_⟩) (by assumption) ?_
                  rotate_left
                  · (intro w hSw; (try dsimp only at hSw); go_simp; try with_reducible rfl)
                  try simp only [Act.put, List.setIfInBounds_toArray, List.set_cons_zero, List.set_cons_succ]
                  refine wpAnyH_take (i := 4) (oi := ⟨some 117, _, _, _, _, _⟩) (v := callA y1) rfl (by kernel_rfl) (by kernel_rfl) (by kernel_rfl) (fun _ _ _ h => h) (yieldsIf_load_mid (by rfl) 34 (.tmp 116) rfl GB (j * 15) rfl (callV y1) _ (fun _ h => h.1) Try.underlying34 rfl (by kernel_rfl)) (by assumption) ?_
                  try simp only [Act.put, List.setIfInBounds_toArray, List.set_cons_zero, List.set_cons_succ]
                  refine wpAnyH_take (i := 5) (oi := ⟨some 118, _, _, _, _, _⟩) (v := ?_) rfl (by kernel_rfl) (by kernel_rfl) (by kernel_rfl) (fun _ _ _ h => h) (Or.inl ⟨by rfl, ?_⟩) (by assumption) ?_
                  rotate_left
                  · (intro w hSw; (try dsimp only at hSw); go_simp; try with_reducible rfl)
                  try simp only [Act.put, List.setIfInBounds_toArray, List.set_cons_zero, List.set_cons_succ]
                  refine wpAnyH_take (i := 6) (oi := ⟨some 119, _, _, _, _, _⟩) (v := ?_) rfl (by kernel_rfl) (by kernel_rfl) (by kernel_rfl) (fun _ _ _ h => h) (Or.inl ⟨by rfl, ?_⟩) (by assumption) ?_
                  rotate_left
                  · (intro w hSw; (try dsimp only at hSw); go_simp; try with_reducible rfl)
                  try simp only [Act.put, List.setIfInBounds_toArray, List.set_cons_zero, List.set_cons_succ]
                  refine wpAnyH_take (i := 7) (oi := ⟨some 120, _, _, _, _, _⟩) (v := ?_) rfl (by kernel_rfl) (by kernel_rfl) (by kernel_rfl) (fun _ _ _ h => h) (Or.inl ⟨by rfl, ?_⟩) (by assumption) ?_
                  rotate_left
                  · (intro w hSw; (try dsimp only at hSw); go_simp; try with_reducible rfl)
                  try simp only [Act.put, List.setIfInBounds_toArray, List.set_cons_zero, List.set_cons_succ]
                  refine wpAnyH_take (i := 8) (oi := ⟨some 121, _, _, _, _, _⟩) (v := callA y2) rfl (by kernel_rfl) (by kernel_rfl) (by kernel_rfl) (fun _ _ _ h => h) (yieldsIf_load_mid (by rfl) 34 (.tmp 120) rfl GB ((j + 1) * 15) rfl (callV y2) _ (fun _ h => h.2) Try.underlying34 rfl (by kernel_rfl)) (by assumption) ?_
                  try simp only [Act.put, List.setIfInBounds_toArray, List.set_cons_zero, List.set_cons_succ]
                  refine wpAnyH_ready (rs := [9, 10]) (by kernel_rfl) (by simp) ?_
                  refine AllReadyH.cons (o := ⟨some 11, _, _, _, _, _⟩) rfl (fun K hK => ?_) (AllReadyH.cons (o := ⟨some 12, _, _, _, _, _⟩) rfl (fun K hK => ?_) AllReadyH.nil)
                  · go_simp
                    refine hK.out _ _ ?_ (fun hHeldX => ?_)
                    · exact ⟨cell_rng RX.out ((below_draws (below_draws (Below.refl _ _) _) 1).alloc (by simp) _), cell_rng RY.out ((below_draws (below_draws (Below.refl _ _) _) 1).alloc (by simp) _)⟩
                    clear hK K hHeld
                    rename _ => hHeld
                    try simp only [Act.put, List.setIfInBounds_toArray, List.set_cons_zero, List.set_cons_succ]
                    refine wpAnyH_ready (rs := [10]) (by kernel_rfl) (by simp) ?_
                    refine AllReadyH.cons (o := ⟨some 12, _, _, _, _, _⟩) rfl (fun K hK => ?_) AllReadyH.nil
                    go_simp
                    generalize hwB : World.alloc (World.alloc _ _) _ = wB
                    have MB := Lib.hid (two_boxes (below_draws (below_draws (Below.refl wr.heap.size wr) _) 1) rfl hwB)
                    replace MB := Lib.hid MB.out.1
                    clear hwB
                    refine hK.out _ _ ?_ (fun hHeldX => ?_)
                    · exact ⟨cell_rng RX.out MB.out.below, cell_rng RY.out MB.out.below⟩
                    clear hK K hHeld
                    rename _ => hHeld
                    try simp only [Act.put, List.setIfInBounds_toArray, List.set_cons_zero, List.set_cons_succ]
                    refine wpAnyH_ready (rs := [11]) (by kernel_rfl) (by simp) ?_
                    refine AllReadyH.cons (o := ⟨none, _, _, _, _, _⟩) rfl (fun K hK => ?_) AllReadyH.nil
                    refine step_store_mid rfl 34 (.tmp 11) (.tmp 117) rfl wr.heap.size 0 (callV y1).toArray rfl rfl (blk_there MB.out.bx (by rw [callV_len]; simp [callV_len])) (by kernel_rfl) (callV1_one _) ?_
                    generalize e7 : World.setCells _ _ _ _ = w7
                    have MC := Lib.hid (MB.out.putX (callV_len _) e7)
                    clear e7
                    refine hK.out _ _ ?_ (fun hHeldX => ?_)
                    · exact ⟨cell_rng RX.out MC.out.below, cell_rng RY.out MC.out.below⟩
                    clear hK K hHeld
                    rename _ => hHeld
                    simp only [Act.put]
                    refine wpAnyH_ready (rs := [12]) (by kernel_rfl) (by simp) ?_
                    refine AllReadyH.cons (o := ⟨none, _, _, _, _, _⟩) rfl (fun K hK => ?_) AllReadyH.nil
                    refine step_store_mid rfl 34 (.tmp 12) (.tmp 121) rfl (wr.heap.size + 1) 0 (callV y2).toArray rfl rfl (blk_there MC.out.bY (by rw [callV_len]; simp [callV_len])) (by kernel_rfl) (callV1_one _) ?_
                    generalize e8 : World.setCells _ _ _ _ = w8
                    have MD := Lib.hid (MC.out.putY (callV_len _) e8)
                    clear e8
                    refine hK.out _ _ ?_ (fun hHeldX => ?_)
                    · exact ⟨cell_rng RX.out MD.out.below, cell_rng RY.out MD.out.below⟩
                    clear hK K hHeld
                    rename _ => hHeld
                    simp only [Act.put]
                    refine wpAnyH_done (by kernel_rfl) ?_ _
                    refine NoPanic.normal ?_
                    go_wp2_with fail
                    go_meet
                    case rel => exact ⟨_, _, rfl, rfl, Lib.hid (MD.out.F5 F.out rfl), HY0⟩
                  · go_simp
                    refine hK.out _ _ ?_ (fun hHeldX => ?_)
                    · exact ⟨cell_rng RX.out ((below_draws (below_draws (Below.refl _ _) _) 1).alloc (by simp) _), cell_rng RY.out ((below_draws (below_draws (Below.refl _ _) _) 1).alloc (by simp) _)⟩
                    clear hK K hHeld
                    rename _ => hHeld
                    try simp only [Act.put, List.setIfInBounds_toArray, List.set_cons_zero, List.set_cons_succ]
                    refine wpAnyH_ready (rs := [9]) (by kernel_rfl) (by simp) ?_
                    refine AllReadyH.cons (o := ⟨some 11, _, _, _, _, _⟩) rfl (fun K hK => ?_) AllReadyH.nil
                    go_simp
                    generalize hwB : World.alloc (World.alloc _ _) _ = wB
                    have MB := Lib.hid (two_boxes (below_draws (below_draws (Below.refl wr.heap.size wr) _) 1) rfl hwB)
                    replace MB := Lib.hid MB.out.2
                    clear hwB
                    refine hK.out _ _ ?_ (fun hHeldX => ?_)
                    · exact ⟨cell_rng RX.out MB.out.below, cell_rng RY.out MB.out.below⟩
                    clear hK K hHeld
                    rename _ => hHeld
                    try simp only [Act.put, List.setIfInBounds_toArray, List.set_cons_zero, List.set_cons_succ]
                    refine wpAnyH_ready (rs := [11]) (by kernel_rfl) (by simp) ?_
                    refine AllReadyH.cons (o := ⟨none, _, _, _, _, _⟩) rfl (fun K hK => ?_) AllReadyH.nil
                    refine step_store_mid rfl 34 (.tmp 11) (.tmp 117) rfl (wr.heap.size + 1) 0 (callV y1).toArray rfl rfl (blk_there MB.out.bx (by rw [callV_len]; simp [callV_len])) (by kernel_rfl) (callV1_one _) ?_
                    generalize e7 : World.setCells _ _ _ _ = w7
                    have MC := Lib.hid (MB.out.putX (callV_len _) e7)
                    clear e7
                    refine hK.out _ _ ?_ (fun hHeldX => ?_)
                    · exact ⟨cell_rng RX.out MC.out.below, cell_rng RY.out MC.out.below⟩
                    clear hK K hHeld
                    rename _ => hHeld
                    simp only [Act.put]
                    refine wpAnyH_ready (rs := [12]) (by kernel_rfl) (by simp) ?_
                    refine AllReadyH.cons (o := ⟨none, _, _, _, _, _⟩) rfl (fun K hK => ?_) AllReadyH.nil
                    refine step_store_mid rfl 34 (.tmp 12) (.tmp 121) rfl wr.heap.size 0 (callV y2).toArray rfl rfl (blk_there MC.out.bY (by rw [callV_len]; simp [callV_len])) (by kernel_rfl) (callV1_one _) ?_
                    generalize e8 : World.setCells _ _ _ _ = w8
                    have MD := Lib.hid (MC.out.putY (callV_len _) e8)
                    clear e8
                    refine hK.out _ _ ?_ (fun hHeldX => ?_)
                    · exact ⟨cell_rng RX.out MD.out.below, cell_rng RY.out MD.out.below⟩
                    clear hK K hHeld
                    rename _ => hHeld
                    simp only [Act.put]
                    refine wpAnyH_done (by kernel_rfl) ?_ _
                    refine NoPanic.normal ?_
                    go_wp2_with fail
                    go_meet
                    case rel => exact ⟨_, _, rfl, rfl, Lib.hid (MD.out.F5 F.out rfl), HY0⟩
                case rest =>
                  obtain ⟨Bx, By, rfl, rfl, F5', HY⟩ := hcut
                  have FL := Lib.hid (show Lc.length = k by rw [F5'.out.f4.len]; exact FIN.out.len)
                  have F6 := Lib.hid (F5'.out.keep (below_draws (Below.refl _ _) 1))
                  clear RX RY N9
                  go_wp2_with fail
                  refine wp_region_noPanic ?_
                  refine wp_region_held_drew (S := (fun w' => w'.rangeAt By 0 (callV y2) ∧ w'.rangeAt Bx 0 (callV y1))) (by kernel_rfl) ?_ (fun hHeld => ?_)
                  · exact ⟨blk_range F6.out.bY, blk_range F6.out.bx⟩
                  refine wpAnyH_take (i := 0) (oi := ⟨some 122, _, _, _, _, _⟩) (v := ?_) rfl (by kernel_rfl) (by kernel_rfl) (by kernel_rfl) (fun _ _ _ h => h) (Or.inl ⟨by rfl, ?_⟩) (by assumption) ?_
                  rotate_left
                  · (intro w hSw; (try dsimp only at hSw); go_simp; try with_reducible rfl)
                  try simp only [Act.put, List.setIfInBounds_toArray, List.set_cons_zero, List.set_cons_succ]
                  refine wpAnyH_take (i := 1) (oi := ⟨some 123, _, _, _, _, _⟩) (v := ?_) rfl (by kernel_rfl) (by kernel_rfl) (by kernel_rfl) (fun _ _ _ h => h) (Or.inl ⟨by rfl, ?_⟩) (by assumption) ?_
                  rotate_left
                  · (intro w hSw; (try dsimp only at hSw); go_simp; try with_reducible rfl)
                  try simp only [Act.put, List.setIfInBounds_toArray, List.set_cons_zero, List.set_cons_succ]
                  refine wpAnyH_take (i := 2) (oi := ⟨some 124, _, _, _, _, _⟩) (v := ?_) rfl (by kernel_rfl) (by kernel_rfl) (by kernel_rfl) (fun _ _ _ h => h) (Or.inl ⟨by rfl, ?_⟩) (by assumption) ?_
                  rotate_left
                  · (intro w hSw; (try dsimp only at hSw); go_simp; try with_reducible rfl)
                  try simp only [Act.put, List.setIfInBounds_toArray, List.set_cons_zero, List.set_cons_succ]
                  refine wpAnyH_take (i := 3) (oi := ⟨some 125, _, _, _, _, _⟩) (v := ?_) rfl (by kernel_rfl) (by kernel_rfl) (by kernel_rfl) (fun _ _ _ h => h) (Or.inl ⟨by rfl, ?_⟩) (by assumption) ?_
                  rotate_left
                  · (intro w hSw; (try dsimp only at hSw); go_simp; try with_reducible rfl)
                  try simp only [Act.put, List.setIfInBounds_toArray, List.set_cons_zero, List.set_cons_succ]
                  refine wpAnyH_take (i := 4) (oi := ⟨some 126, _, _, _, _, _⟩) (v := ?_) rfl (by kernel_rfl) (by kernel_rfl) (by kernel_rfl) (fun _ _ _ h => h) (Or.inl ⟨by rfl, ?_⟩) (by assumption) ?_
                  rotate_left
                  · (intro w hSw; (try dsimp only at hSw); go_simp; try with_reducible rfl)
                  try simp only [Act.put, List.setIfInBounds_toArray, List.set_cons_zero, List.set_cons_succ]
                  refine wpAnyH_take (i := 5) (oi := ⟨some 127, _, _, _, _, _⟩) (v := callA y2) rfl (by kernel_rfl) (by kernel_rfl) (by kernel_rfl) (fun _ _ _ h => h) (yieldsIf_load_mid (by rfl) 34 (.tmp 12) rfl By 0 rfl (callV y2) _ (fun _ h => h.1) Try.underlying34 rfl (by kernel_rfl)) (by assumption) ?_
                  try simp only [Act.put, List.setIfInBounds_toArray, List.set_cons_zero, List.set_cons_succ]
                  refine wpAnyH_take (i := 6) (oi := ⟨some 128, _, _, _, _, _⟩) (v := callA y1) rfl (by kernel_rfl) (by kernel_rfl) (by kernel_rfl) (fun _ _ _ h => h) (yieldsIf_load_mid (by rfl) 34 (.tmp 11) rfl Bx 0 rfl (callV y1) _ (fun _ h => h.2) Try.underlying34 rfl (by kernel_rfl)) (by assumption) ?_
                  try simp only [Act.put, List.setIfInBounds_toArray, List.set_cons_zero, List.set_cons_succ]
                  refine wpAnyH_take (i := 7) (oi := ⟨some 129, _, _, _, _, _⟩) (v := ?_) rfl (by kernel_rfl) (by kernel_rfl) (by kernel_rfl) (fun _ _ _ h => h) (Or.inl ⟨by rfl, ?_⟩) (by assumption) ?_
                  rotate_left
                  · (intro w hSw; (try dsimp only at hSw); go_simp; try with_reducible rfl)
                  try simp only [Act.put, List.setIfInBounds_toArray, List.set_cons_zero, List.set_cons_succ]
                  refine wpAnyH_ready (rs := [8]) (by kernel_rfl) (by simp) ?_
                  refine AllReadyH.cons (o := ⟨none, _, _, _, _, _⟩) rfl (fun K hK => ?_) AllReadyH.nil
                  refine step_store_mid rfl 34 (.tmp 129) (.tmp 127) rfl GB (j * 15) (callV y2).toArray rfl rfl (F6.out.f4.thereAt rfl (by rw [FL.out]; omega)) (by kernel_rfl) (callV1_one _) ?_
                  generalize e8 : World.setCells _ _ _ _ = w8
                  have HE8 := Lib.hid e8
                  have H8 := Lib.hid (F6.out.half (j := j) (by rw [FL.out]; omega) e8)
                  clear e8
                  refine hK.out _ _ ?_ (fun hHeldX => ?_)
                  · exact ⟨blk_range H8.out.2.2, blk_range H8.out.2.1⟩
                  clear hK K hHeld
                  rename _ => hHeld
                  simp only [Act.put]
                  refine wpAnyH_take (i := 9) (oi := ⟨some 130, _, _, _, _, _⟩) (v := ?_) rfl (by kernel_rfl) (by kernel_rfl) (by kernel_rfl) (fun _ _ _ h => h) (Or.inl ⟨by rfl, ?_⟩) (by assumption) ?_
                  rotate_left
                  · (intro w hSw; (try dsimp only at hSw); go_simp; try with_reducible rfl)
                  try simp only [Act.put, List.setIfInBounds_toArray, List.set_cons_zero, List.set_cons_succ]
                  refine wpAnyH_ready (rs := [10]) (by kernel_rfl) (by simp) ?_
                  refine AllReadyH.cons (o := ⟨none, _, _, _, _, _⟩) rfl (fun K hK => ?_) AllReadyH.nil
                  refine step_store_mid rfl 34 (.tmp 130) (.tmp 128) rfl GB ((j + 1) * 15) (callV y1).toArray rfl rfl H8.out.1 (by kernel_rfl) (callV1_one _) ?_
                  generalize e9 : World.setCells _ _ _ _ = w9
                  have N10 := Lib.hid (F6.out.whole HY.out.1 HY.out.2 HE8.out e9)
                  clear e9
                  refine hK.out _ _ ?_ (fun hHeldX => ?_)
                  · exact ⟨blk_range N10.out.2.2, blk_range N10.out.2.1⟩
                  clear hK K hHeld
                  rename _ => hHeld
                  simp only [Act.put]
                  refine wpAnyH_done (by kernel_rfl) ?_ _
                  refine NoPanic.normal ?_
                  go_wp2_with fail
                  go_roundw
                  case rel => exact ⟨j, _, by omega, by go_num, Lib.hid N10.out.1⟩
                  case measure => simp [intOf]
              · have hq : decide (y2.fr < y1.fr) = false := by simpa using hc
                go_wp2_with fail
                go_quiet (fail)
                go_wp2_with fail
                go_roundw
                case rel => exact ⟨i + 1, Lc, by omega, by omega, by go_num, Lib.hid (F.out.keep (below_draws (Below.refl _ _) _))⟩
                case measure => simp [intOf]; omega
        · obtain ⟨r, hr⟩ := F.out.ls
          have FO := Lib.hid (found_of FIN.out hr F.out.len hk14)
          have hLk : Lc.length = k := by rw [F.out.len]; exact FIN.out.len
          have HLK := Lib.hid hLk
          have HSM := Lib.hid (fun y hy => FIN.out.small y (listed_mem hr hy))
          have HTO := Lib.hid (fun y hy => FIN.out.to y (listed_mem hr hy))
          obtain ⟨tt, hres, hchk⟩ := FO.out.res
          have hcost := Lib.hid FO.out.cost
          have HR := Lib.hid hres
          have HC := Lib.hid hchk
          have htl : tt.length = Lc.length := by
            unfold refCheckZ at hchk
            rw [Bool.and_eq_true] at hchk
            exact of_decide_eq_true hchk.1
          have HTL := Lib.hid htl
          have CC : Hid (CallsIn wr (.slice la k lc) Lc) := Lib.hid (CallsIn.own F.out.own rfl)
          have BE : Hid (Below w.heap.size w wr) := Lib.hid (B1.out.trans (F.out.below.mono B1.out.size))
          clear hr hLk hres hchk htl F FO
          generalize wr = w4 at *
          go_wp2_with fail
          refine (law_machine _).mono ?_
          rintro e w5 ⟨rfl, hb⟩
          have C5 := Lib.hid (CC.out.below hb)
          have B5 := Lib.hid (BE.out.trans (hb.mono BE.out.size))
          clear hb
          go_wp2_with fail
          refine (lin_Order (c := 100) C5.out (by rw [HLK.out]; omega) (by decide) HSM.out hcost.out).mono ?_
          rintro e w6 ⟨r2, rfl, hn, hb⟩
          rw [show resF Lc D24 st0 = some tt from HR.out] at hn ⊢
          rw [show (some tt).isSome = true from rfl]
          replace hn : NumsIn w6 r2 tt := hn
          obtain ⟨ra, rc, er, _⟩ := hn.form
          subst er
          have N6 := Lib.hid hn
          have C6 := Lib.hid (C5.out.below hb)
          have B6 := Lib.hid (B5.out.trans (hb.mono B5.out.size))
          clear hb hn
          go_wp2_with fail
          refine (ref_Check8 C6.out (by rw [HLK.out]; omega) (NumsF.of N6.out)).mono ?_
          rintro e w7 ⟨rfl, hb⟩
          rw [HC.out]
          have N7 := Lib.hid (SliceK.below N6.out hb)
          have C7 := Lib.hid (C6.out.below hb)
          have B7 := Lib.hid (B6.out.trans (hb.mono B6.out.size))
          clear hb
          go_wp2_with fail
          refine (law_machine _).mono ?_
          rintro e w8 ⟨rfl, hb⟩
          have N8 := Lib.hid (SliceK.below N7.out hb)
          have C8 := Lib.hid (C7.out.below hb)
          have B8 := Lib.hid (B7.out.trans (hb.mono B7.out.size))
          clear hb
          go_wp2_with fail
          refine (lin_Check C8.out (by rw [HLK.out]; omega) (NumsF.of N8.out) (by rw [HTL.out, HLK.out]; omega)).mono ?_
          rintro e w9 ⟨rfl, hb⟩
          rw [check_same smallM Lc HTO.out, HC.out]
          have B9 := Lib.hid (B8.out.trans (hb.mono B8.out.size))
          clear hb
          go_wp2
          go_ret
          exact ⟨rfl, B9.out⟩

end Go.Proofs.Ythngehpmoiojfaa
