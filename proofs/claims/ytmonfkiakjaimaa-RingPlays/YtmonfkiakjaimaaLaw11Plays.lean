/- RingPlays' walk. -/
import Derived.Test.YtmonfkiakjaimaaBoth11
import Derived.Deep.CutBlock
import Derived.Deep.CutRange
import Derived.Deep.RegionHeld3
namespace Go.Proofs.Ytmonfkiakjaimaa
open Go.RowKit

theorem ref_Ints_same (u v : Value) (A : List Int) (w : World) (hu : NumsIn w u A) (hv : NumsIn w v A) (hA : A.length ≤ 1000000) :
    Calls Try.prog 19 #[u, v] w fun e w' => e = .returned (.bool true) ∧ Below w.heap.size w w' :=
  (ref_Ints u v A A w hu hv hA hA).mono fun e w' ⟨h1, h2⟩ => ⟨by rw [h1]; simp, h2⟩
set_option maxRecDepth 100000 in
set_option maxHeartbeats 8000000 in
theorem plays11 (n : Int) (a : Option Addr) (cap : Nat) (D : List Int) (slot : Int) (w : World) (ht : ListIn numV w a D) :
    Calls Try.prog 3 #[.int .i64 n, .slice a D.length cap, .int .i64 slot] w fun e w' => e = .returned (.bool true) ∧ Below w.heap.size w w' := by
  have T := Lib.hid ht
  clear ht
  by_cases hbig : 500 < D.length
  · go_enter Try.func3, Try.ntmps3
    go_wp2_with fail
    refine (awake11 w).mono ?_
    rintro e w1 ⟨rfl, hb⟩
    have B1 := Lib.hid hb
    clear hb
    go_wp2
    go_ret
    exact ⟨rfl, B1.out⟩
  have hd : decide (500 < D.length) = false := by simpa using hbig
  go_enter Try.func3, Try.ntmps3
  go_wp2_with fail
  refine (awake11 w).mono ?_
  rintro e w1 ⟨rfl, hb⟩
  have B1 := Lib.hid hb
  have T1 := Lib.hid (T.out.below hb)
  clear hb T
  go_wp2_with fail
  refine (rg_New n w1).mono ?_
  rintro e w2 ⟨rfl, h2, hb2⟩
  have Q2 := Lib.hid (And.intro h2 hb2)
  clear h2 hb2
  go_wp2_with fail
  refine (ref_New11 n w2).mono ?_
  rintro e w3 ⟨rfl, h3, hb3⟩
  have S3 := Lib.hid (pst11_start Q2.out.1 (by omega) (Nat.le_refl _) Q2.out.2 h3 (Nat.le_refl _) hb3)
  obtain ⟨X, hX⟩ : ∃ X, w2.heap.size = X := ⟨_, rfl⟩
  obtain ⟨S, hS⟩ : ∃ S, w1.heap.size = S := ⟨_, rfl⟩
  obtain ⟨B, hB⟩ : ∃ B, w1.heap.size + 1 = B := ⟨_, rfl⟩
  have S4 : Hid (PSt11 w1 w3 B S X (.slice none 0 0) ⟨limR n, 0, 0, []⟩ 0) := by rw [← hB, ← hS, ← hX]; exact S3
  rw [hX, hB]
  clear h3 hb3 Q2 hX hB hS S3
  have z4 := S4.out.both.rr.box.2.2.2.2.1
  simp only at z4
  go_upto_region 6 with fail
  have hcap := Lib.hid fun q => (rg_Cap (S4.out.both.drewN q).rg).mono fun e w' h => And.intro h.1 (show ∃ m, w' = w3.drewN m from ⟨q, h.2.symm⟩)
  go_quiet (first | (go_at_call 10; exact hcap.out _))
  have S5 : Hid (PSt11 w1 (w3.drewN nq) B S X (.slice none 0 0) ⟨limR n, 0, 0, []⟩ 0) := Lib.hid (S4.out.keep (below_draws (Below.refl _ _) _))
  generalize w3.drewN nq = w4 at *
  clear z4 S4 hcap
  go_wp2_with fail
  go_loopg [9] D.length (fun g i wr => ∃ (k : Nat) (lv : Value) (x : Rg), k + g = D.length ∧ i = .int .i64 k ∧ Hid (PSt11 w1 wr B S X lv x k))
  case atStart => exact ⟨0, _, _, by omega, rfl, S5⟩
  case round =>
    obtain ⟨k, lv, x, hk, rfl, ST⟩ := hrel
    have HK := Lib.hid hk
    have hkL : k ≤ D.length := by omega
    have hk5 : k ≤ 500 := by omega
    clear S5 hk
    by_cases hlt : k < D.length
    · obtain ⟨b, off, rfl, hb, hx⟩ := T1.out.at k hlt
      generalize D[k] = v at hx
      have CC : Hid (∀ w', Below w1.heap.size w1 w' → w'.cell? ⟨b, off + k, none⟩ = some (.int .i64 v)) := Lib.hid fun w' hw => (hw.cell (p := ⟨b, off + k, none⟩) hb).trans hx
      have x0 := CC.out _ ST.out.both.below
      clear hx
      go_upto_if 41 with fail
      go_cut [10, 11, 12, 13] from 41 to 72 (fun _ _ _ _ wx => ∃ (lv : Value) (x : Rg), Hid (PSt11 w1 wx B S X lv x (k + 1)))
      case first =>
        by_cases h0 : 0 ≤ v
        · by_cases hl : x.L.length < x.n
          · have HL := Lib.hid hl
            clear hl
            go_wp2_with fail
            refine wp_region_noPanic ?_
            refine wp_region_held_drew (S := (fun w' => w'.cell? ⟨b, off + k, none⟩ = some (.int .i64 v))) (by kernel_rfl) ?_ (fun hHeld => ?_)
            · first | exact CC.out _ N6.out.both.below | exact CC.out _ M5.out.below | exact CC.out wr ST.out.both.below
            refine wpAnyH_take (i := 0) (oi := ⟨some 42, _, _, _, _, _⟩) (v := ?_) rfl (by kernel_rfl) (by kernel_rfl) (by kernel_rfl) (fun _ _ _ h => h) (Or.inl ⟨by rfl, ?_⟩) (by assumption) ?_
            rotate_left
            · (intro w hSw; (try dsimp only at hSw); go_simp; try with_reducible rfl)
            try simp only [Act.put, List.setIfInBounds_toArray, List.set_cons_zero, List.set_cons_succ]
            refine wpAnyH_take (i := 1) (oi := ⟨some 43, _, _, _, _, _⟩) (v := ?_) rfl (by kernel_rfl) (by kernel_rfl) (by kernel_rfl) (fun _ _ _ h => h) (Or.inl ⟨by rfl, ?_⟩) (by assumption) ?_
            rotate_left
            · (intro w hSw; (try dsimp only at hSw); go_simp; try with_reducible rfl)
            try simp only [Act.put, List.setIfInBounds_toArray, List.set_cons_zero, List.set_cons_succ]
            refine wpAnyH_take (i := 2) (oi := ⟨some 44, _, _, _, _, _⟩) (v := ?_) rfl (by kernel_rfl) (by kernel_rfl) (by kernel_rfl) (fun _ _ _ h => h) (Or.inl ⟨by rfl, ?_⟩) (by assumption) ?_
            rotate_left
            · (intro w hSw; (try dsimp only at hSw); go_simp; try with_reducible rfl)
            try simp only [Act.put, List.setIfInBounds_toArray, List.set_cons_zero, List.set_cons_succ]
            refine wpAnyH_take (i := 3) (oi := ⟨some 45, _, _, _, _, _⟩) (v := ?_) rfl (by kernel_rfl) (by kernel_rfl) (by kernel_rfl) (fun _ _ _ h => h) (Or.inl ⟨by rfl, ?_⟩) (by assumption) ?_
            rotate_left
            · (intro w hSw; (try dsimp only at hSw); go_simp; try with_reducible rfl)
            try simp only [Act.put, List.setIfInBounds_toArray, List.set_cons_zero, List.set_cons_succ]
            refine wpAnyH_take (i := 4) (oi := ⟨some 46, _, _, _, _, _⟩) (v := ?_) rfl (by kernel_rfl) (by kernel_rfl) (by kernel_rfl) (fun _ _ _ h => h) (Or.inl ⟨by rfl, ?_⟩) (by assumption) ?_
            rotate_left
            · (intro w hSw; (try dsimp only at hSw); go_simp; try with_reducible rfl)
            try simp only [Act.put, List.setIfInBounds_toArray, List.set_cons_zero, List.set_cons_succ]
            refine wpAnyH_take (i := 6) (oi := ⟨some 48, _, _, _, _, _⟩) (v := ?_) rfl (by kernel_rfl) (by kernel_rfl) (by kernel_rfl) (fun _ _ _ h => h) (Or.inl ⟨by rfl, ?_⟩) (by assumption) ?_
            rotate_left
            · (intro w hSw; (try dsimp only at hSw); go_simp; try with_reducible rfl)
            try simp only [Act.put, List.setIfInBounds_toArray, List.set_cons_zero, List.set_cons_succ]
            refine wpAnyH_take (i := 7) (oi := ⟨some 49, _, _, _, _, _⟩) (v := ?_) rfl (by kernel_rfl) (by kernel_rfl) (by kernel_rfl) (fun _ _ _ h => h) (Or.inl ⟨by rfl, ?_⟩) (by assumption) ?_
            rotate_left
            · (intro w hSw; (try dsimp only at hSw); go_simp; try with_reducible rfl)
            try simp only [Act.put, List.setIfInBounds_toArray, List.set_cons_zero, List.set_cons_succ]
            refine wpAnyH_take (i := 8) (oi := ⟨some 50, _, _, _, _, _⟩) (v := ?_) rfl (by kernel_rfl) (by kernel_rfl) (by kernel_rfl) (fun _ _ _ h => h) (Or.inl ⟨by rfl, ?_⟩) (by assumption) ?_
            rotate_left
            · (intro w hSw; (try dsimp only at hSw); go_simp; try with_reducible rfl)
            try simp only [Act.put, List.setIfInBounds_toArray, List.set_cons_zero, List.set_cons_succ]
            refine wpAnyH_take (i := 9) (oi := ⟨some 51, _, _, _, _, _⟩) (v := ?_) rfl (by kernel_rfl) (by kernel_rfl) (by kernel_rfl) (fun _ _ _ h => h) (Or.inl ⟨by rfl, ?_⟩) (by assumption) ?_
            rotate_left
            · (intro w hSw; (try dsimp only at hSw); go_simp; try with_reducible rfl)
            try simp only [Act.put, List.setIfInBounds_toArray, List.set_cons_zero, List.set_cons_succ]
            refine wpAnyH_take (i := 10) (oi := ⟨some 52, _, _, _, _, _⟩) (v := ?_) rfl (by kernel_rfl) (by kernel_rfl) (by kernel_rfl) (fun _ _ _ h => h) (Or.inl ⟨by rfl, ?_⟩) (by assumption) ?_
            rotate_left
            · (intro w hSw; (try dsimp only at hSw); go_simp; try with_reducible rfl)
            try simp only [Act.put, List.setIfInBounds_toArray, List.set_cons_zero, List.set_cons_succ]
            refine wpAnyH_ready (rs := [5]) (by kernel_rfl) (by simp) ?_
            refine AllReadyH.cons (o := ⟨some 47, _, _, _, _, _⟩) rfl (fun K hK => ?_) AllReadyH.nil
            go_simp
            refine (rg_Put_yes (ST.out.both.drewN 1).rg (by have := ST.out.gk; omega) HL.out v).mono ?_
            rintro e w5 ⟨rfl, h5, o5⟩
            have M5 := Lib.hid ((ST.out.both.drewN 1).turnRg h5 o5)
            clear h5 o5
            go_wp2_with fail
            refine hK.out _ _ ?_ (fun hHeldX => ?_)
            · first | exact CC.out _ N6.out.both.below | exact CC.out _ M5.out.below | exact CC.out wr ST.out.both.below
            clear hK K hHeld
            rename _ => hHeld
            try simp only [Act.put, List.setIfInBounds_toArray, List.set_cons_zero, List.set_cons_succ]
            refine wpAnyH_ready (rs := [11]) (by kernel_rfl) (by simp) ?_
            refine AllReadyH.cons (o := ⟨some 53, _, _, _, _, _⟩) rfl (fun K hK => ?_) AllReadyH.nil
            go_simp
            refine (ref_Put_yes11 M5.out.rr M5.out.below.size (by have := ST.out.gk; omega) HL.out ST.out.both.rg.ok.most v).mono ?_
            rintro e w6 ⟨rfl, ⟨lv6, h6, n6⟩, o6⟩
            have N6 := Lib.hid (ST.out.put (M5.out.turnRr h6 n6 o6))
            clear h6 n6 o6
            go_wp2_with fail
            refine hK.out _ _ ?_ (fun hHeldX => ?_)
            · first | exact CC.out _ N6.out.both.below | exact CC.out _ M5.out.below | exact CC.out wr ST.out.both.below
            clear hK K hHeld
            rename _ => hHeld
            try simp only [Act.put, List.setIfInBounds_toArray, List.set_cons_zero, List.set_cons_succ]
            refine wpAnyH_take (i := 12) (oi := ⟨some 54, _, _, _, _, _⟩) (v := ?_) rfl (by kernel_rfl) (by kernel_rfl) (by kernel_rfl) (fun _ _ _ h => h) (Or.inl ⟨by rfl, ?_⟩) (by assumption) ?_
            rotate_left
            · (intro w hSw; (try dsimp only at hSw); go_simp; try with_reducible rfl)
            try simp only [Act.put, List.setIfInBounds_toArray, List.set_cons_zero, List.set_cons_succ]
            refine wpAnyH_done (by kernel_rfl) ?_ _
            refine NoPanic.normal ?_
            go_wp2_with fail
            go_meet
            case rel => exact ⟨_, _, N6⟩
          · have HL := Lib.hid (show x.L.length = x.n by have := ST.out.both.rg.ok.fit; omega)
            clear hl
            go_wp2_with fail
            refine wp_region_noPanic ?_
            refine wp_region_held_drew (S := (fun w' => w'.cell? ⟨b, off + k, none⟩ = some (.int .i64 v))) (by kernel_rfl) ?_ (fun hHeld => ?_)
            · first | exact CC.out _ N6.out.both.below | exact CC.out _ M5.out.below | exact CC.out wr ST.out.both.below
            refine wpAnyH_take (i := 0) (oi := ⟨some 42, _, _, _, _, _⟩) (v := ?_) rfl (by kernel_rfl) (by kernel_rfl) (by kernel_rfl) (fun _ _ _ h => h) (Or.inl ⟨by rfl, ?_⟩) (by assumption) ?_
            rotate_left
            · (intro w hSw; (try dsimp only at hSw); go_simp; try with_reducible rfl)
            try simp only [Act.put, List.setIfInBounds_toArray, List.set_cons_zero, List.set_cons_succ]
            refine wpAnyH_take (i := 1) (oi := ⟨some 43, _, _, _, _, _⟩) (v := ?_) rfl (by kernel_rfl) (by kernel_rfl) (by kernel_rfl) (fun _ _ _ h => h) (Or.inl ⟨by rfl, ?_⟩) (by assumption) ?_
            rotate_left
            · (intro w hSw; (try dsimp only at hSw); go_simp; try with_reducible rfl)
            try simp only [Act.put, List.setIfInBounds_toArray, List.set_cons_zero, List.set_cons_succ]
            refine wpAnyH_take (i := 2) (oi := ⟨some 44, _, _, _, _, _⟩) (v := ?_) rfl (by kernel_rfl) (by kernel_rfl) (by kernel_rfl) (fun _ _ _ h => h) (Or.inl ⟨by rfl, ?_⟩) (by assumption) ?_
            rotate_left
            · (intro w hSw; (try dsimp only at hSw); go_simp; try with_reducible rfl)
            try simp only [Act.put, List.setIfInBounds_toArray, List.set_cons_zero, List.set_cons_succ]
            refine wpAnyH_take (i := 3) (oi := ⟨some 45, _, _, _, _, _⟩) (v := ?_) rfl (by kernel_rfl) (by kernel_rfl) (by kernel_rfl) (fun _ _ _ h => h) (Or.inl ⟨by rfl, ?_⟩) (by assumption) ?_
            rotate_left
            · (intro w hSw; (try dsimp only at hSw); go_simp; try with_reducible rfl)
            try simp only [Act.put, List.setIfInBounds_toArray, List.set_cons_zero, List.set_cons_succ]
            refine wpAnyH_take (i := 4) (oi := ⟨some 46, _, _, _, _, _⟩) (v := ?_) rfl (by kernel_rfl) (by kernel_rfl) (by kernel_rfl) (fun _ _ _ h => h) (Or.inl ⟨by rfl, ?_⟩) (by assumption) ?_
            rotate_left
            · (intro w hSw; (try dsimp only at hSw); go_simp; try with_reducible rfl)
            try simp only [Act.put, List.setIfInBounds_toArray, List.set_cons_zero, List.set_cons_succ]
            refine wpAnyH_take (i := 6) (oi := ⟨some 48, _, _, _, _, _⟩) (v := ?_) rfl (by kernel_rfl) (by kernel_rfl) (by kernel_rfl) (fun _ _ _ h => h) (Or.inl ⟨by rfl, ?_⟩) (by assumption) ?_
            rotate_left
            · (intro w hSw; (try dsimp only at hSw); go_simp; try with_reducible rfl)
            try simp only [Act.put, List.setIfInBounds_toArray, List.set_cons_zero, List.set_cons_succ]
            refine wpAnyH_take (i := 7) (oi := ⟨some 49, _, _, _, _, _⟩) (v := ?_) rfl (by kernel_rfl) (by kernel_rfl) (by kernel_rfl) (fun _ _ _ h => h) (Or.inl ⟨by rfl, ?_⟩) (by assumption) ?_
            rotate_left
            · (intro w hSw; (try dsimp only at hSw); go_simp; try with_reducible rfl)
            try simp only [Act.put, List.setIfInBounds_toArray, List.set_cons_zero, List.set_cons_succ]
            refine wpAnyH_take (i := 8) (oi := ⟨some 50, _, _, _, _, _⟩) (v := ?_) rfl (by kernel_rfl) (by kernel_rfl) (by kernel_rfl) (fun _ _ _ h => h) (Or.inl ⟨by rfl, ?_⟩) (by assumption) ?_
            rotate_left
            · (intro w hSw; (try dsimp only at hSw); go_simp; try with_reducible rfl)
            try simp only [Act.put, List.setIfInBounds_toArray, List.set_cons_zero, List.set_cons_succ]
            refine wpAnyH_take (i := 9) (oi := ⟨some 51, _, _, _, _, _⟩) (v := ?_) rfl (by kernel_rfl) (by kernel_rfl) (by kernel_rfl) (fun _ _ _ h => h) (Or.inl ⟨by rfl, ?_⟩) (by assumption) ?_
            rotate_left
            · (intro w hSw; (try dsimp only at hSw); go_simp; try with_reducible rfl)
            try simp only [Act.put, List.setIfInBounds_toArray, List.set_cons_zero, List.set_cons_succ]
            refine wpAnyH_take (i := 10) (oi := ⟨some 52, _, _, _, _, _⟩) (v := ?_) rfl (by kernel_rfl) (by kernel_rfl) (by kernel_rfl) (fun _ _ _ h => h) (Or.inl ⟨by rfl, ?_⟩) (by assumption) ?_
            rotate_left
            · (intro w hSw; (try dsimp only at hSw); go_simp; try with_reducible rfl)
            try simp only [Act.put, List.setIfInBounds_toArray, List.set_cons_zero, List.set_cons_succ]
            refine wpAnyH_ready (rs := [5]) (by kernel_rfl) (by simp) ?_
            refine AllReadyH.cons (o := ⟨some 47, _, _, _, _, _⟩) rfl (fun K hK => ?_) AllReadyH.nil
            go_simp
            refine (rg_Put_no (ST.out.both.drewN 1).rg (by have := ST.out.gk; omega) (by have := ST.out.dk; omega) HL.out v).mono ?_
            rintro e w5 ⟨rfl, h5, o5⟩
            have M5 := Lib.hid ((ST.out.both.drewN 1).turnRg h5 o5)
            clear h5 o5
            go_wp2_with fail
            refine hK.out _ _ ?_ (fun hHeldX => ?_)
            · first | exact CC.out _ N6.out.both.below | exact CC.out _ M5.out.below | exact CC.out wr ST.out.both.below
            clear hK K hHeld
            rename _ => hHeld
            try simp only [Act.put, List.setIfInBounds_toArray, List.set_cons_zero, List.set_cons_succ]
            refine wpAnyH_ready (rs := [11]) (by kernel_rfl) (by simp) ?_
            refine AllReadyH.cons (o := ⟨some 53, _, _, _, _, _⟩) rfl (fun K hK => ?_) AllReadyH.nil
            go_simp
            refine (ref_Put_no11 M5.out.rr (by have := ST.out.dk; omega) HL.out v).mono ?_
            rintro e w6 ⟨rfl, h6, o6⟩
            have N6 := Lib.hid (ST.out.drop (M5.out.turnRr h6 (RrNew.refl _ _ _) o6))
            clear h6 o6
            go_wp2_with fail
            refine hK.out _ _ ?_ (fun hHeldX => ?_)
            · first | exact CC.out _ N6.out.both.below | exact CC.out _ M5.out.below | exact CC.out wr ST.out.both.below
            clear hK K hHeld
            rename _ => hHeld
            try simp only [Act.put, List.setIfInBounds_toArray, List.set_cons_zero, List.set_cons_succ]
            refine wpAnyH_take (i := 12) (oi := ⟨some 54, _, _, _, _, _⟩) (v := ?_) rfl (by kernel_rfl) (by kernel_rfl) (by kernel_rfl) (fun _ _ _ h => h) (Or.inl ⟨by rfl, ?_⟩) (by assumption) ?_
            rotate_left
            · (intro w hSw; (try dsimp only at hSw); go_simp; try with_reducible rfl)
            try simp only [Act.put, List.setIfInBounds_toArray, List.set_cons_zero, List.set_cons_succ]
            refine wpAnyH_done (by kernel_rfl) ?_ _
            refine NoPanic.normal ?_
            go_wp2_with fail
            go_meet
            case rel => exact ⟨_, _, N6⟩
        · rcases hxl : x.L with _ | ⟨u, L⟩
          · have HL := Lib.hid hxl
            clear hxl
            go_wp2_with fail
            refine (rg_Get_no ST.out.both.rg (by have := ST.out.gk; omega) HL.out).mono ?_
            rintro e w5 ⟨rfl, n5, rfl⟩
            go_wp2_with fail
            refine (ref_Get_no11 (ST.out.both.drewN n5).rr HL.out).mono ?_
            rintro e w6 ⟨rfl, rfl⟩
            go_wp2_with fail
            go_meet
            case rel => exact ⟨_, _, Lib.hid (ST.out.keep (below_draws (Below.refl _ _) n5)).next⟩
          · have HL := Lib.hid hxl
            have hL3 := Lib.hid (show L.length ≤ 1024 by have h1 := ST.out.both.rg.ok.fit; have h2 := ST.out.both.rg.ok.most; rw [hxl] at h1; simp at h1; omega)
            clear hxl
            go_wp2_with fail
            refine (rg_Get_yes ST.out.both.rg (by have := ST.out.gk; omega) HL.out).mono ?_
            rintro e w5 ⟨rfl, h5, o5⟩
            have M5 := Lib.hid (ST.out.both.turnRg h5 o5)
            clear h5 o5
            go_wp2_with fail
            refine (ref_Get_yes11 M5.out.rr M5.out.below.size (by have := ST.out.gk; omega) HL.out hL3.out).mono ?_
            rintro e w6 ⟨rfl, ⟨lv6, h6, n6⟩, o6⟩
            have N6 := Lib.hid (ST.out.got (M5.out.turnRr h6 n6 o6))
            clear h6 n6 o6
            go_wp2_with fail
            go_meet
            case rel => exact ⟨_, _, N6⟩
      case rest =>
        obtain ⟨lv, x, E7⟩ := hcut
        clear x0 ST
        obtain ⟨z0, z1, z2, z3, z4, _⟩ := E7.out.both.rr.box
        obtain ⟨la, lc, le⟩ := own_form E7.out.both.rr.row
        rw [le] at z0
        clear le z1 z2 z4
        have HL := Lib.hid fun q => (rg_Len (E7.out.both.drewN q).rg (by have := E7.out.gk; omega)).mono fun e w' h => And.intro h.1 (show ∃ m, w' = wc.drewN m from by obtain ⟨r, hr⟩ := h.2; exact ⟨q + r, by rw [hr, World.drewN_drewN]⟩)
        have HD := Lib.hid fun q => (rg_Drops (E7.out.both.drewN q).rg).mono fun e w' h => And.intro h.1 (show ∃ m, w' = wc.drewN m from ⟨q, h.2.symm⟩)
        have HS := Lib.hid fun q => (rg_Sequence (E7.out.both.drewN q).rg slot).mono fun e w' h => And.intro h.1 (show ∃ m, w' = wc.drewN m from ⟨q, h.2.symm⟩)
        have HR := Lib.hid fun q => (ref_Sequence11 (E7.out.both.drewN q).rr E7.out.both.rg.ok (by have := E7.out.gk; omega) slot).mono fun e w' h => And.intro h.1 (show ∃ m, w' = wc.drewN m from by obtain ⟨r, hr⟩ := h.2; exact ⟨q + r, by rw [hr, World.drewN_drewN]⟩)
        go_upto_region 18 with fail
        go_quiet (first
          | (go_at_call 15; exact HL.out _)
          | (go_at_call 16; exact HD.out _)
          | (go_at_call 17; exact HS.out _)
          | (go_at_call 18; exact HR.out _))
        go_wp2_with fail
        have hgk := HK.out
        go_roundg (gk - 1)
        case rel => exact ⟨k + 1, _, _, by omega, by go_num, Lib.hid (E7.out.keep (below_draws (Below.refl _ _) _))⟩
        case measure => omega
    · obtain rfl : k = D.length := by omega
      clear HK hlt
      have hm := ST.out.both.rg.ok.most
      have hn1 : x.n ≤ 1024 := hm
      go_upto_region 20 with fail
      go_wp2_with fail
      go_loopw [14] (fun i wz => ∃ (j q : Nat), j ≤ x.n ∧ i = .int .i64 j ∧ wz = wr.drewN q) (fun i _ => x.n - (intOf i).toNat)
      case atStart => exact ⟨0, 0, Nat.zero_le _, rfl, rfl⟩
      case round =>
        obtain ⟨j, q, hj, rfl, rfl⟩ := hrel
        have ES := Lib.hid (ST.out.keep (below_draws (Below.refl wr.heap.size wr) q))
        generalize hwy : wr.drewN q = wy at *
        have HWY := Lib.hid hwy
        have z4 := ES.out.both.rr.box.2.2.2.2.1
        clear hwy
        by_cases hjn : j < x.n
        · go_wp2_with fail
          refine (rg_Sequence ES.out.both.rg (j : Int)).mono ?_
          rintro e w' ⟨rfl, rfl⟩
          go_wp2_with fail
          refine (ref_Sequence11 ES.out.both.rr ES.out.both.rg.ok (by have := ES.out.gk; omega) (j : Int)).mono ?_
          rintro e w' ⟨rfl, q2, rfl⟩
          go_wp2_with fail
          go_roundw
          case rel => exact ⟨j + 1, q + q2, by omega, by go_num, by rw [← HWY.out, World.drewN_drewN]⟩
          case measure => simp [intOf]; omega
        · have GB := Lib.hid (show x.g ≤ 100000 by have := ES.out.gk; omega)
          have LB := Lib.hid (show x.L.length ≤ 1000000 by have := ES.out.both.rg.ok.fit; omega)
          obtain ⟨la, lc, le⟩ := own_form ES.out.both.rr.row
          have LE := Lib.hid (congrArg some le)
          have LN : Hid (∀ w', RrIs w' w1.heap.size X lv x → NumsIn w' (.slice la x.L.length lc) x.L) := Lib.hid fun w' h => by
            have := SliceK.of_own h.row
            rw [le] at this
            exact this
          have E0 := Lib.hid (ES.out.both.drewN 1)
          clear le
          go_upto_region 25 with fail
          refine wp_region_noPanic ?_
          refine wp_region_held_drew (S := (fun w' => w'.cell? ⟨X, 0, none⟩ = some (.slice la x.L.length lc))) (by kernel_rfl) ?_ (fun hHeld => ?_)
          · first | exact E4.out.rr.box.1.trans LE.out | exact E3.out.rr.box.1.trans LE.out | exact E2.out.rr.box.1.trans LE.out | exact E1.out.rr.box.1.trans LE.out | exact (show wy.cell? _ = _ from ES.out.both.rr.box.1).trans LE.out
          refine wpAnyH_take (i := 0) (oi := ⟨some 114, _, _, _, _, _⟩) (v := ?_) rfl (by kernel_rfl) (by kernel_rfl) (by kernel_rfl) (fun _ _ _ h => h) (Or.inl ⟨by rfl, ?_⟩) (by assumption) ?_
          rotate_left
          · (intro w hSw; (try dsimp only at hSw); go_simp; try with_reducible rfl)
          try simp only [Act.put, List.setIfInBounds_toArray, List.set_cons_zero, List.set_cons_succ]
          refine wpAnyH_take (i := 2) (oi := ⟨some 116, _, _, _, _, _⟩) (v := ?_) rfl (by kernel_rfl) (by kernel_rfl) (by kernel_rfl) (fun _ _ _ h => h) (Or.inl ⟨by rfl, ?_⟩) (by assumption) ?_
          rotate_left
          · (intro w hSw; (try dsimp only at hSw); go_simp; try with_reducible rfl)
          try simp only [Act.put, List.setIfInBounds_toArray, List.set_cons_zero, List.set_cons_succ]
          refine wpAnyH_take (i := 3) (oi := ⟨some 117, _, _, _, _, _⟩) (v := ?_) rfl (by kernel_rfl) (by kernel_rfl) (by kernel_rfl) (fun _ _ _ h => h) (Or.inl ⟨by rfl, ?_⟩) (by assumption) ?_
          rotate_left
          · (intro w hSw; (try dsimp only at hSw); go_simp; try with_reducible rfl)
          try simp only [Act.put, List.setIfInBounds_toArray, List.set_cons_zero, List.set_cons_succ]
          refine wpAnyH_take (i := 4) (oi := ⟨some 118, _, _, _, _, _⟩) (v := ?_) rfl (by kernel_rfl) (by kernel_rfl) (by kernel_rfl) (fun _ _ _ h => h) (Or.inl ⟨by rfl, ?_⟩) (by assumption) ?_
          rotate_left
          · (intro w hSw; (try dsimp only at hSw); go_simp; try with_reducible rfl)
          try simp only [Act.put, List.setIfInBounds_toArray, List.set_cons_zero, List.set_cons_succ]
          refine wpAnyH_take (i := 5) (oi := ⟨some 119, _, _, _, _, _⟩) (v := ?_) rfl (by kernel_rfl) (by kernel_rfl) (by kernel_rfl) (fun _ _ _ h => h) (Or.inl ⟨by rfl, ?_⟩) (by assumption) ?_
          rotate_left
          · (intro w hSw; (try dsimp only at hSw); go_simp; try with_reducible rfl)
          try simp only [Act.put, List.setIfInBounds_toArray, List.set_cons_zero, List.set_cons_succ]
          refine wpAnyH_ready (rs := [1]) (by kernel_rfl) (by simp) ?_
          refine AllReadyH.cons (o := ⟨some 115, _, _, _, _, _⟩) rfl (fun K hK => ?_) AllReadyH.nil
          go_simp
          refine (law_list11 E0.out.rg GB.out).mono ?_
          rintro e w5 ⟨r1, rfl, hr1, hb1⟩
          have NR1 := Lib.hid hr1
          have E1 := Lib.hid (E0.out.keep hb1)
          clear hr1 hb1
          go_wp2_with fail
          refine hK.out _ _ ?_ (fun hHeldX => ?_)
          · first | exact E4.out.rr.box.1.trans LE.out | exact E3.out.rr.box.1.trans LE.out | exact E2.out.rr.box.1.trans LE.out | exact E1.out.rr.box.1.trans LE.out | exact (show wy.cell? _ = _ from ES.out.both.rr.box.1).trans LE.out
          clear hK K hHeld
          rename _ => hHeld
          try simp only [Act.put, List.setIfInBounds_toArray, List.set_cons_zero, List.set_cons_succ]
          refine wpAnyH_ready (rs := [6]) (by kernel_rfl) (by simp) ?_
          refine AllReadyH.cons (o := ⟨some 120, _, _, _, _, _⟩) rfl (fun K hK => ?_) AllReadyH.nil
          go_simp
          refine (ref_Ints_same _ _ x.L _ NR1.out (LN.out _ E1.out.rr) LB.out).mono ?_
          rintro e w5 ⟨rfl, hb2⟩
          have E2 := Lib.hid (E1.out.keep hb2)
          clear hb2
          go_wp2_with fail
          refine hK.out _ _ ?_ (fun hHeldX => ?_)
          · first | exact E4.out.rr.box.1.trans LE.out | exact E3.out.rr.box.1.trans LE.out | exact E2.out.rr.box.1.trans LE.out | exact E1.out.rr.box.1.trans LE.out | exact (show wy.cell? _ = _ from ES.out.both.rr.box.1).trans LE.out
          clear hK K hHeld
          rename _ => hHeld
          try simp only [Act.put, List.setIfInBounds_toArray, List.set_cons_zero, List.set_cons_succ]
          refine wpAnyH_take (i := 7) (oi := ⟨some 121, _, _, _, _, _⟩) (v := ?_) rfl (by kernel_rfl) (by kernel_rfl) (by kernel_rfl) (fun _ _ _ h => h) (Or.inl ⟨by rfl, ?_⟩) (by assumption) ?_
          rotate_left
          · (intro w hSw; (try dsimp only at hSw); go_simp; try with_reducible rfl)
          try simp only [Act.put, List.setIfInBounds_toArray, List.set_cons_zero, List.set_cons_succ]
          refine wpAnyH_take (i := 8) (oi := ⟨some 122, _, _, _, _, _⟩) (v := ?_) rfl (by kernel_rfl) (by kernel_rfl) (by kernel_rfl) (fun _ _ _ h => h) (Or.inl ⟨by rfl, ?_⟩) (by assumption) ?_
          rotate_left
          · (intro w hSw; (try dsimp only at hSw); go_simp; try with_reducible rfl)
          try simp only [Act.put, List.setIfInBounds_toArray, List.set_cons_zero, List.set_cons_succ]
          refine wpAnyH_take (i := 10) (oi := ⟨some 124, _, _, _, _, _⟩) (v := ?_) rfl (by kernel_rfl) (by kernel_rfl) (by kernel_rfl) (fun _ _ _ h => h) (Or.inl ⟨by rfl, ?_⟩) (by assumption) ?_
          rotate_left
          · (intro w hSw; (try dsimp only at hSw); go_simp; try with_reducible rfl)
          try simp only [Act.put, List.setIfInBounds_toArray, List.set_cons_zero, List.set_cons_succ]
          refine wpAnyH_take (i := 11) (oi := ⟨some 125, _, _, _, _, _⟩) (v := ?_) rfl (by kernel_rfl) (by kernel_rfl) (by kernel_rfl) (fun _ _ _ h => h) (Or.inl ⟨by rfl, ?_⟩) (by assumption) ?_
          rotate_left
          · (intro w hSw; (try dsimp only at hSw); go_simp; try with_reducible rfl)
          try simp only [Act.put, List.setIfInBounds_toArray, List.set_cons_zero, List.set_cons_succ]
          refine wpAnyH_take (i := 12) (oi := ⟨some 126, _, _, _, _, _⟩) (v := ?_) rfl (by kernel_rfl) (by kernel_rfl) (by kernel_rfl) (fun _ _ _ h => h) (Or.inl ⟨by rfl, ?_⟩) (by assumption) ?_
          rotate_left
          · (intro w hSw; (try dsimp only at hSw); go_simp; try with_reducible rfl)
          try simp only [Act.put, List.setIfInBounds_toArray, List.set_cons_zero, List.set_cons_succ]
          refine wpAnyH_take (i := 13) (oi := ⟨some 127, _, _, _, _, _⟩) (v := ?_) rfl (by kernel_rfl) (by kernel_rfl) (by kernel_rfl) (fun _ _ _ h => h) (Or.inl ⟨by rfl, ?_⟩) (by assumption) ?_
          rotate_left
          · (intro w hSw; (try dsimp only at hSw); go_simp; try with_reducible rfl)
          try simp only [Act.put, List.setIfInBounds_toArray, List.set_cons_zero, List.set_cons_succ]
          refine wpAnyH_ready (rs := [9]) (by kernel_rfl) (by simp) ?_
          refine AllReadyH.cons (o := ⟨some 123, _, _, _, _, _⟩) rfl (fun K hK => ?_) AllReadyH.nil
          go_simp
          refine (law_list11 E2.out.rg GB.out).mono ?_
          rintro e w5 ⟨r3, rfl, hr3, hb3⟩
          have NR3 := Lib.hid hr3
          have E3 := Lib.hid (E2.out.keep hb3)
          clear hr3 hb3
          go_wp2_with fail
          refine hK.out _ _ ?_ (fun hHeldX => ?_)
          · first | exact E4.out.rr.box.1.trans LE.out | exact E3.out.rr.box.1.trans LE.out | exact E2.out.rr.box.1.trans LE.out | exact E1.out.rr.box.1.trans LE.out | exact (show wy.cell? _ = _ from ES.out.both.rr.box.1).trans LE.out
          clear hK K hHeld
          rename _ => hHeld
          try simp only [Act.put, List.setIfInBounds_toArray, List.set_cons_zero, List.set_cons_succ]
          refine wpAnyH_ready (rs := [14]) (by kernel_rfl) (by simp) ?_
          refine AllReadyH.cons (o := ⟨some 128, _, _, _, _, _⟩) rfl (fun K hK => ?_) AllReadyH.nil
          go_simp
          refine (ref_Ints_same _ _ x.L _ NR3.out (LN.out _ E3.out.rr) LB.out).mono ?_
          rintro e w5 ⟨rfl, hb4⟩
          have E4 := Lib.hid (E3.out.keep hb4)
          clear hb4
          go_wp2_with fail
          refine hK.out _ _ ?_ (fun hHeldX => ?_)
          · first | exact E4.out.rr.box.1.trans LE.out | exact E3.out.rr.box.1.trans LE.out | exact E2.out.rr.box.1.trans LE.out | exact E1.out.rr.box.1.trans LE.out | exact (show wy.cell? _ = _ from ES.out.both.rr.box.1).trans LE.out
          clear hK K hHeld
          rename _ => hHeld
          try simp only [Act.put, List.setIfInBounds_toArray, List.set_cons_zero, List.set_cons_succ]
          refine wpAnyH_take (i := 15) (oi := ⟨some 129, _, _, _, _, _⟩) (v := ?_) rfl (by kernel_rfl) (by kernel_rfl) (by kernel_rfl) (fun _ _ _ h => h) (Or.inl ⟨by rfl, ?_⟩) (by assumption) ?_
          rotate_left
          · (intro w hSw; (try dsimp only at hSw); go_simp; try with_reducible rfl)
          try simp only [Act.put, List.setIfInBounds_toArray, List.set_cons_zero, List.set_cons_succ]
          refine wpAnyH_take (i := 16) (oi := ⟨some 6, _, _, _, _, _⟩) (v := ?_) rfl (by kernel_rfl) (by kernel_rfl) (by kernel_rfl) (fun _ _ _ h => h) (Or.inl ⟨by rfl, ?_⟩) (by assumption) ?_
          rotate_left
          · (intro w hSw; (try dsimp only at hSw); go_simp; try with_reducible rfl)
          try simp only [Act.put, List.setIfInBounds_toArray, List.set_cons_zero, List.set_cons_succ]
          refine wpAnyH_done (by kernel_rfl) ?_ _
          refine NoPanic.normal ?_
          go_wp2_with fail
          go_ret
          exact ⟨rfl, B1.out.trans (E4.out.below.mono B1.out.size)⟩

end Go.Proofs.Ytmonfkiakjaimaa
