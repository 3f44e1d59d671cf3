/- Layer 7 (package hist): Minimal. -/
import Derived.Test.YthngehpmoiojfaaUndone7
import Derived.Test.YthngehpmoiojfaaTurnW7
import Derived.Deep.RegionHeld3
import Derived.Deep.Cut
import Derived.Deep.CutRange
namespace Go.Proofs.Ythngehpmoiojfaa
open Go.RowKit

theorem soonZ_in (L : List CallZ) (P : List Int) (out : Int) (hR : ∀ x ∈ P, ∃ m : Nat, x = (m : Int) ∧ m < L.length) : InR L.length (soonZ L P out) := by
  have s := soon_spec L P out (fun x hx => by obtain ⟨m, rfl, _⟩ := hR x hx; omega)
  rcases s.ex with ⟨h, _⟩ | ⟨h, _, _⟩
  · exact .inl h
  · exact .inr (hR _ h)
theorem filter_take (q : Int → Bool) {P : List Int} {k : Nat} (h : k < P.length) : (P.take (k + 1)).filter q = (P.take k).filter q ++ if q P[k] = true then [P[k]] else [] := by
  rw [List.take_succ_eq_append_getElem h, List.filter_append]
  congr 1
  by_cases e : q P[k] = true
  · rw [List.filter_cons_of_pos e, if_pos e]; rfl
  · rw [List.filter_cons_of_neg e, if_neg e]; rfl
theorem own_low {w : World} {base base' : Nat} {e : TypeId} {size : Nat} {v : Value} {n : Nat} {xs : List Value} (h : w.ownsRow base e size v n xs) (hb : base' ≤ base) : w.ownsRow base' e size v n xs := by
  refine ⟨h.1, ?_⟩
  rcases h.2 with hn | ⟨g, cap, cur, hv, hg, rest⟩
  · exact .inl hn
  · exact .inr ⟨g, cap, cur, hv, Nat.le_trans hb hg, rest⟩
set_option maxHeartbeats 8000000 in
set_option maxRecDepth 100000 in
theorem hist_MinimalO {w : World} {v : Value} {L : List CallZ} {ad : Option Addr} {D : List Bool} {capd : Nat} (hL : CallsIn w v L) (hLl : L.length ≤ 100000) (hD : ListIn Value.bool w ad D) :
    Calls Try.prog 48 #[v, .slice ad D.length capd] w fun e w' => ∃ r, e = .returned r ∧ w'.ownsRow w.heap.size 3 1 r (minZ L D).length ((minZ L D).map numV) ∧ Below w.heap.size w w' := by
  obtain ⟨i0, hi, hz0, hz1, hz2⟩ := info_parts infoInt
  have HL := Lib.hid hL
  obtain ⟨a, c, rfl, hr⟩ := hL
  have H := Lib.hid hr
  have HD := Lib.hid hD
  have HR := Lib.hid (show ∀ x ∈ undoneTo D L.length, ∃ m : Nat, x = (m : Int) ∧ m < L.length from fun x hx => by obtain ⟨i, h1, _, h2⟩ := undoneTo_mem.1 hx; exact ⟨i, h2, h1⟩)
  have HPl := undoneTo_len D L.length
  have E := Lib.hid (show minZ L D = (undoneTo D L.length).filter (minOk L (soonZ L (undoneTo D L.length) (-1)) (soonZ L (undoneTo D L.length) (soonZ L (undoneTo D L.length) (-1)))) from rfl)
  clear hr hD
  generalize hP : undoneTo D L.length = P at HR HPl E
  have HP := Lib.hid hP
  clear hP
  go_enter Try.func48, Try.ntmps48
  go_wp2_with fail
  refine (hist_undone HD.out L.length hLl).mono ?_
  rintro e w1 ⟨p, rfl, hp1, hb1⟩
  rw [HP.out] at hp1
  have P1 := Lib.hid (And.intro hp1 hb1)
  clear hp1 hb1
  go_wp2_with fail
  refine (hist_soonest (HL.out.below P1.out.2) P1.out.1 HR.out (by omega) (-1)).mono ?_
  rintro e w2 ⟨rfl, n2, rfl⟩
  have P2 := Lib.hid (And.intro (show NumsIn (w1.drewN n2) p P from P1.out.1.below (below_draws (Below.refl _ _) n2)) (below_draws P1.out.2 n2))
  have R1 := Lib.hid (soonZ_in L P (-1) HR.out)
  clear P1
  generalize w1.drewN n2 = w2 at P2 ⊢
  generalize soonZ L P (-1) = first at E R1 ⊢
  go_wp2_with fail
  refine (hist_soonest (HL.out.below P2.out.2) P2.out.1 HR.out (by omega) first).mono ?_
  rintro e w3 ⟨rfl, n3, rfl⟩
  have P3 := Lib.hid (And.intro (show NumsIn (w2.drewN n3) p P from P2.out.1.below (below_draws (Below.refl _ _) n3)) (below_draws P2.out.2 n3))
  have R2 := Lib.hid (soonZ_in L P first HR.out)
  clear P2
  generalize w2.drewN n3 = w3 at P3 ⊢
  generalize soonZ L P first = second at E R2 ⊢
  obtain ⟨ap, cp, rfl, hpf⟩ := P3.out.1.form
  have B3 := P3.out.2.size
  go_wp2
  go_loopw [8, 25] (fun o s wr => ∃ (k : Nat) (M : List Int), k ≤ P.length ∧ M.length ≤ k ∧ s = .int .i64 k ∧ Hid ((P.take k).filter (minOk L first second) = M) ∧ wr.ownsRow w3.heap.size 3 1 o M.length (M.map numV) ∧ Below w3.heap.size w3 wr) (fun _ s _ => P.length - (intOf s).toNat)
  case atStart => exact ⟨0, [], Nat.zero_le _, Nat.le_refl _, rfl, Lib.hid rfl, World.ownsRow_nil _ _ _ _, Below.refl _ _⟩
  case round =>
    obtain ⟨k, M, hk, hM, rfl, F, hrow, hB⟩ := hrel
    have hbs := hB.size
    by_cases hlt : k < P.length
    · obtain ⟨bp, op, rfl, hbp, hcp⟩ := hpf k hlt
      have hcw := (hB.cell (p := ⟨bp, op + k, none⟩) hbp).trans hcp
      rw [getD_at hlt] at hcw
      obtain ⟨i, hxi, hil⟩ := HR.out P[k] (List.getElem_mem hlt)
      have hft := filter_take (minOk L first second) hlt
      rw [hxi] at hcw hft
      obtain ⟨b, off, rfl, hbw, hrgx⟩ := H.out.range hil
      have hbr : b < wr.heap.size := by have := P3.out.2.size; omega
      have hwr : Below w.heap.size w wr := P3.out.2.trans (hB.mono P3.out.2.size)
      have RX := Lib.hid (show wr.rangeAt b (off + i * 15) (callV L[i]) from fun j v hv => (hwr.cell (p := ⟨b, off + i * 15 + j, none⟩) hbw).trans (hrgx j v hv))
      have hq : minOk L first second (i : Int) = (decide (otherZ first second (i : Int) = -1) || !decide ((atZ L (otherZ first second (i : Int))).to < L[i].fr)) := by unfold minOk; rw [atZ_nat hil]
      generalize L[i] = x at RX hq
      have HF := Lib.hid hft
      clear hft hrgx hcp hxi hwr
      by_cases hf : (i : Int) = first
      · have hf1 : ((i : Int) == first) = true := by simpa using hf
        have O := Lib.hid (show otherZ first second (i : Int) = second by unfold otherZ; rw [if_pos hf])
        clear hf
        rw [O.out] at hq
        clear O
        rcases R2.out with hn | ⟨m, hmo, hml0⟩
        · have hm1 : (second == -1) = true := by simpa using hn
          have F2 := Lib.hid (show (P.take (k + 1)).filter (minOk L first second) = (P.take k).filter (minOk L first second) ++ [(i : Int)] by rw [HF.out, hq, show decide (second = -1) = true by simpa using hn]; rfl)
          clear hq HF hn
          go_wp2_with fail
          refine wp_region_noPanic ?_
          refine wp_region_held_drew (S := (fun _ => True)) (by kernel_rfl) ?_ (fun hHeld => ?_)
          · exact trivial
          refine wpAnyH_take (i := 0) (oi := ⟨some 34, _, _, _, _, _⟩) (v := ?_) rfl (by kernel_rfl) (by kernel_rfl) (by kernel_rfl) (fun _ _ _ h => h) (Or.inl ⟨by rfl, ?_⟩) (by assumption) ?_
          rotate_left
          · (intro w hSw; (try dsimp only at hSw); go_simp; try with_reducible rfl)
          try simp only [Act.put, List.setIfInBounds_toArray, List.set_cons_zero, List.set_cons_succ]
          refine wpAnyH_take (i := 1) (oi := ⟨some 35, _, _, _, _, _⟩) (v := ?_) rfl (by kernel_rfl) (by kernel_rfl) (by kernel_rfl) (fun _ _ _ h => h) (Or.inl ⟨by rfl, ?_⟩) (by assumption) ?_
          rotate_left
          · (intro w hSw; (try dsimp only at hSw); go_simp; try with_reducible rfl)
          try simp only [Act.put, List.setIfInBounds_toArray, List.set_cons_zero, List.set_cons_succ]
          refine wpAnyH_take (i := 2) (oi := ⟨some 36, _, _, _, _, _⟩) (v := ?_) rfl (by kernel_rfl) (by kernel_rfl) (by kernel_rfl) (fun _ _ _ h => h) (Or.inl ⟨by rfl, ?_⟩) (by assumption) ?_
          rotate_left
          · (intro w hSw; (try dsimp only at hSw); go_simp; try with_reducible rfl)
          try simp only [Act.put, List.setIfInBounds_toArray, List.set_cons_zero, List.set_cons_succ]
          refine wpAnyH_take (i := 3) (oi := ⟨some 37, _, _, _, _, _⟩) (v := undef) rfl (by kernel_rfl) (by kernel_rfl) (by kernel_rfl) (fun _ _ _ h => h) (Or.inr ⟨by rfl, rfl⟩) (by assumption) ?_
          try simp only [Act.put, List.setIfInBounds_toArray, List.set_cons_zero, List.set_cons_succ]
          refine wpAnyH_take (i := 4) (oi := ⟨some 38, _, _, _, _, _⟩) (v := undef) rfl (by kernel_rfl) (by kernel_rfl) (by kernel_rfl) (fun _ _ _ h => h) (Or.inr ⟨by rfl, rfl⟩) (by assumption) ?_
          try simp only [Act.put, List.setIfInBounds_toArray, List.set_cons_zero, List.set_cons_succ]
          refine wpAnyH_take (i := 5) (oi := ⟨some 39, _, _, _, _, _⟩) (v := undef) rfl (by kernel_rfl) (by kernel_rfl) (by kernel_rfl) (fun _ _ _ h => h) (Or.inr ⟨by rfl, rfl⟩) (by assumption) ?_
          try simp only [Act.put, List.setIfInBounds_toArray, List.set_cons_zero, List.set_cons_succ]
          refine wpAnyH_take (i := 6) (oi := ⟨some 40, _, _, _, _, _⟩) (v := undef) rfl (by kernel_rfl) (by kernel_rfl) (by kernel_rfl) (fun _ _ _ h => h) (Or.inr ⟨by rfl, rfl⟩) (by assumption) ?_
          try simp only [Act.put, List.setIfInBounds_toArray, List.set_cons_zero, List.set_cons_succ]
          refine wpAnyH_take (i := 7) (oi := ⟨some 41, _, _, _, _, _⟩) (v := undef) rfl (by kernel_rfl) (by kernel_rfl) (by kernel_rfl) (fun _ _ _ h => h) (Or.inr ⟨by rfl, rfl⟩) (by assumption) ?_
          try simp only [Act.put, List.setIfInBounds_toArray, List.set_cons_zero, List.set_cons_succ]
          refine wpAnyH_take (i := 8) (oi := ⟨some 42, _, _, _, _, _⟩) (v := undef) rfl (by kernel_rfl) (by kernel_rfl) (by kernel_rfl) (fun _ _ _ h => h) (Or.inr ⟨by rfl, rfl⟩) (by assumption) ?_
          try simp only [Act.put, List.setIfInBounds_toArray, List.set_cons_zero, List.set_cons_succ]
          refine wpAnyH_take (i := 9) (oi := ⟨some 43, _, _, _, _, _⟩) (v := undef) rfl (by kernel_rfl) (by kernel_rfl) (by kernel_rfl) (fun _ _ _ h => h) (Or.inr ⟨by rfl, rfl⟩) (by assumption) ?_
          try simp only [Act.put, List.setIfInBounds_toArray, List.set_cons_zero, List.set_cons_succ]
          refine wpAnyH_take (i := 10) (oi := ⟨some 44, _, _, _, _, _⟩) (v := undef) rfl (by kernel_rfl) (by kernel_rfl) (by kernel_rfl) (fun _ _ _ h => h) (Or.inr ⟨by rfl, rfl⟩) (by assumption) ?_
          try simp only [Act.put, List.setIfInBounds_toArray, List.set_cons_zero, List.set_cons_succ]
          refine wpAnyH_take (i := 11) (oi := ⟨some 45, _, _, _, _, _⟩) (v := undef) rfl (by kernel_rfl) (by kernel_rfl) (by kernel_rfl) (fun _ _ _ h => h) (Or.inr ⟨by rfl, rfl⟩) (by assumption) ?_
          try simp only [Act.put, List.setIfInBounds_toArray, List.set_cons_zero, List.set_cons_succ]
          refine wpAnyH_take (i := 12) (oi := ⟨some 46, _, _, _, _, _⟩) (v := undef) rfl (by kernel_rfl) (by kernel_rfl) (by kernel_rfl) (fun _ _ _ h => h) (Or.inr ⟨by rfl, rfl⟩) (by assumption) ?_
          try simp only [Act.put, List.setIfInBounds_toArray, List.set_cons_zero, List.set_cons_succ]
          refine wpAnyH_take (i := 13) (oi := ⟨some 47, _, _, _, _, _⟩) (v := ?_) rfl (by kernel_rfl) (by kernel_rfl) (by kernel_rfl) (fun _ _ _ h => h) (Or.inl ⟨by rfl, ?_⟩) (by assumption) ?_
          rotate_left
          · (intro w hSw; (try dsimp only at hSw); go_simp; try with_reducible rfl)
          try simp only [Act.put, List.setIfInBounds_toArray, List.set_cons_zero, List.set_cons_succ]
          refine wpAnyH_done (by kernel_rfl) ?_ _
          refine NoPanic.normal ?_
          have hrow2 := own_only hrow ((Only.refl (fun _ => False) wr).drewN 1) (fun _ _ => id)
          have hs9 := (below_draws hB 1).size
          go_wp2_with (at_builtin; refine wpList_append_own _ rfl _ _ 23 rfl w3.heap.size 3 i0 (.int .i64 0) 1 8 Try.underlying23 hi hz0 hz1 hz2 rfl (by decide) _ _ _ rfl (hrow2.alloc _) ⟨wr.heap.size, 0, none⟩ 1 1 [.int .i64 (i : Int)] rfl rfl (cell_one_new _ _ _) (by simp [Value.oneCell']) (by simp only [maxLen]; omega) (by omega) (by simp; omega) ?_; intro v' w9 hown' hgrow hnil')
          go_roundw
          case rel => exact ⟨k + 1, M ++ [(i : Int)], by omega, by simp; omega, by go_num, Lib.hid (F2.out.trans (by rw [F.out])), own_snoc hown' (by simp), ((below_draws hB 1).alloc hs9 _).grown hgrow (by simp at hs9 ⊢; omega) (fun j e => own_base3 hrow j e)⟩
          case measure => simp [intOf]; omega
        · have hml : second.toNat < L.length := by omega
          have hm1 : (second == -1) = false := by simp; omega
          have hm2 : second < (L.length : Int) := by omega
          have hm3 : 0 ≤ second := by omega
          have hi2 : (i : Int) < (L.length : Int) := by omega
          have hi3 : (0 : Int) ≤ (i : Int) := by omega
          have hdz : decide (second = -1) = false := by simp; omega
          have hat : atZ L second = L[second.toNat] := by unfold atZ; rw [List.getD_eq_getElem?_getD, List.getElem?_eq_getElem hml]; rfl
          obtain ⟨b', off', e', _, hrgy⟩ := H.out.range hml
          cases e'
          have hwr : Below w.heap.size w wr := P3.out.2.trans (hB.mono P3.out.2.size)
          have RY := Lib.hid (show wr.rangeAt b (off + second.toNat * 15) (callV L[second.toNat]) from fun j v hv => (hwr.cell (p := ⟨b, off + second.toNat * 15 + j, none⟩) hbw).trans (hrgy j v hv))
          rw [hdz, hat, Bool.false_or] at hq
          generalize L[second.toNat] = y at RY hq
          clear hrgy hwr hat hdz hmo hml0
          by_cases h2 : y.to < x.fr
          · have h2' : decide (y.to < x.fr) = true := by simpa using h2
            have F2 := Lib.hid (show (P.take (k + 1)).filter (minOk L first second) = (P.take k).filter (minOk L first second) by rw [HF.out, hq, h2']; simp)
            clear hq HF h2
            go_wp2_with fail
            refine wp_region_noPanic ?_
            refine wp_region_held_drew (S := (fun w' => w'.rangeAt b (off + second.toNat * 15) (callV y) ∧ w'.rangeAt b (off + i * 15) (callV x))) (by kernel_rfl) ?_ (fun hHeld => ?_)
            · first | exact ⟨fun j v hv => (G.out.cell (p := ⟨b, off + second.toNat * 15 + j, none⟩) hbr).trans (RY.out j v hv), fun j v hv => (G.out.cell (p := ⟨b, off + i * 15 + j, none⟩) hbr).trans (RX.out j v hv)⟩ | exact ⟨RY.out, RX.out⟩
            refine wpAnyH_take (i := 0) (oi := ⟨some 34, _, _, _, _, _⟩) (v := ?_) rfl (by kernel_rfl) (by kernel_rfl) (by kernel_rfl) (fun _ _ _ h => h) (Or.inl ⟨by rfl, ?_⟩) (by assumption) ?_
            rotate_left
            · (intro w hSw; (try dsimp only at hSw); go_simp; try with_reducible rfl)
            try simp only [Act.put, List.setIfInBounds_toArray, List.set_cons_zero, List.set_cons_succ]
            refine wpAnyH_take (i := 1) (oi := ⟨some 35, _, _, _, _, _⟩) (v := ?_) rfl (by kernel_rfl) (by kernel_rfl) (by kernel_rfl) (fun _ _ _ h => h) (Or.inl ⟨by rfl, ?_⟩) (by assumption) ?_
            rotate_left
            · (intro w hSw; (try dsimp only at hSw); go_simp; try with_reducible rfl)
            try simp only [Act.put, List.setIfInBounds_toArray, List.set_cons_zero, List.set_cons_succ]
            refine wpAnyH_take (i := 2) (oi := ⟨some 36, _, _, _, _, _⟩) (v := ?_) rfl (by kernel_rfl) (by kernel_rfl) (by kernel_rfl) (fun _ _ _ h => h) (Or.inl ⟨by rfl, ?_⟩) (by assumption) ?_
            rotate_left
            · (intro w hSw; (try dsimp only at hSw); go_simp; try with_reducible rfl)
            try simp only [Act.put, List.setIfInBounds_toArray, List.set_cons_zero, List.set_cons_succ]
            refine wpAnyH_take (i := 3) (oi := ⟨some 37, _, _, _, _, _⟩) (v := ?_) rfl (by kernel_rfl) (by kernel_rfl) (by kernel_rfl) (fun _ _ _ h => h) (Or.inl ⟨by rfl, ?_⟩) (by assumption) ?_
            rotate_left
            · (intro w hSw; (try dsimp only at hSw); go_simp; try with_reducible rfl)
            try simp only [Act.put, List.setIfInBounds_toArray, List.set_cons_zero, List.set_cons_succ]
            refine wpAnyH_take (i := 4) (oi := ⟨some 38, _, _, _, _, _⟩) (v := ?_) rfl (by kernel_rfl) (by kernel_rfl) (by kernel_rfl) (fun _ _ _ h => h) (Or.inl ⟨by rfl, ?_⟩) (by assumption) ?_
            rotate_left
            · (intro w hSw; (try dsimp only at hSw); go_simp; try with_reducible rfl)
            try simp only [Act.put, List.setIfInBounds_toArray, List.set_cons_zero, List.set_cons_succ]
            refine wpAnyH_take (i := 5) (oi := ⟨some 39, _, _, _, _, _⟩) (v := ?_) rfl (by kernel_rfl) (by kernel_rfl) (by kernel_rfl) (fun _ _ _ h => h) (Or.inl ⟨by rfl, ?_⟩) (by assumption) ?_
            rotate_left
            · (intro w hSw; (try dsimp only at hSw); go_simp; try with_reducible rfl)
            try simp only [Act.put, List.setIfInBounds_toArray, List.set_cons_zero, List.set_cons_succ]
            refine wpAnyH_take (i := 6) (oi := ⟨some 40, _, _, _, _, _⟩) (v := callA y) rfl (by kernel_rfl) (by kernel_rfl) (by kernel_rfl) (fun _ _ _ h => h) (yieldsIf_load_mid (by rfl) 34 _ rfl b (off + second.toNat * 15) rfl (callV y) _ (fun w h => h.1) Try.underlying34 rfl (by kernel_rfl)) (by assumption) ?_
            try simp only [Act.put, List.setIfInBounds_toArray, List.set_cons_zero, List.set_cons_succ]
            refine wpAnyH_take (i := 7) (oi := ⟨some 41, _, _, _, _, _⟩) (v := ?_) rfl (by kernel_rfl) (by kernel_rfl) (by kernel_rfl) (fun _ _ _ h => h) (Or.inl ⟨by rfl, ?_⟩) (by assumption) ?_
            rotate_left
            · (intro w hSw; (try dsimp only at hSw); go_simp; try with_reducible rfl)
            try simp only [Act.put, List.setIfInBounds_toArray, List.set_cons_zero, List.set_cons_succ]
            refine wpAnyH_take (i := 8) (oi := ⟨some 42, _, _, _, _, _⟩) (v := ?_) rfl (by kernel_rfl) (by kernel_rfl) (by kernel_rfl) (fun _ _ _ h => h) (Or.inl ⟨by rfl, ?_⟩) (by assumption) ?_
            rotate_left
            · (intro w hSw; (try dsimp only at hSw); go_simp; try with_reducible rfl)
            try simp only [Act.put, List.setIfInBounds_toArray, List.set_cons_zero, List.set_cons_succ]
            refine wpAnyH_take (i := 9) (oi := ⟨some 43, _, _, _, _, _⟩) (v := ?_) rfl (by kernel_rfl) (by kernel_rfl) (by kernel_rfl) (fun _ _ _ h => h) (Or.inl ⟨by rfl, ?_⟩) (by assumption) ?_
            rotate_left
            · (intro w hSw; (try dsimp only at hSw); go_simp; try with_reducible rfl)
            try simp only [Act.put, List.setIfInBounds_toArray, List.set_cons_zero, List.set_cons_succ]
            refine wpAnyH_take (i := 10) (oi := ⟨some 44, _, _, _, _, _⟩) (v := callA x) rfl (by kernel_rfl) (by kernel_rfl) (by kernel_rfl) (fun _ _ _ h => h) (yieldsIf_load_mid (by rfl) 34 _ rfl b (off + i * 15) rfl (callV x) _ (fun w h => h.2) Try.underlying34 rfl (by kernel_rfl)) (by assumption) ?_
            try simp only [Act.put, List.setIfInBounds_toArray, List.set_cons_zero, List.set_cons_succ]
            refine wpAnyH_ready (rs := [11]) (by kernel_rfl) (by simp) ?_
            refine AllReadyH.cons (o := ⟨some 45, _, _, _, _, _⟩) rfl (fun K hK => ?_) AllReadyH.nil
            go_simp
            refine (hist_Ahead_b y x _).mono ?_
            rw [h2']
            rintro e w6 ⟨rfl, hb6⟩
            have G := Lib.hid hb6
            clear hb6
            go_wp2_with fail
            refine hK.out _ _ ?_ (fun hHeldX => ?_)
            · first | exact ⟨fun j v hv => (G.out.cell (p := ⟨b, off + second.toNat * 15 + j, none⟩) hbr).trans (RY.out j v hv), fun j v hv => (G.out.cell (p := ⟨b, off + i * 15 + j, none⟩) hbr).trans (RX.out j v hv)⟩ | exact ⟨RY.out, RX.out⟩
            clear hK K hHeld
            rename _ => hHeld
            try simp only [Act.put, List.setIfInBounds_toArray, List.set_cons_zero, List.set_cons_succ]
            refine wpAnyH_take (i := 12) (oi := ⟨some 46, _, _, _, _, _⟩) (v := ?_) rfl (by kernel_rfl) (by kernel_rfl) (by kernel_rfl) (fun _ _ _ h => h) (Or.inl ⟨by rfl, ?_⟩) (by assumption) ?_
            rotate_left
            · (intro w hSw; (try dsimp only at hSw); go_simp; try with_reducible rfl)
            try simp only [Act.put, List.setIfInBounds_toArray, List.set_cons_zero, List.set_cons_succ]
            refine wpAnyH_take (i := 13) (oi := ⟨some 47, _, _, _, _, _⟩) (v := ?_) rfl (by kernel_rfl) (by kernel_rfl) (by kernel_rfl) (fun _ _ _ h => h) (Or.inl ⟨by rfl, ?_⟩) (by assumption) ?_
            rotate_left
            · (intro w hSw; (try dsimp only at hSw); go_simp; try with_reducible rfl)
            try simp only [Act.put, List.setIfInBounds_toArray, List.set_cons_zero, List.set_cons_succ]
            refine wpAnyH_done (by kernel_rfl) ?_ _
            refine NoPanic.normal ?_
            have hrow2 := own_only (own_only hrow ((Only.refl (fun _ => False) wr).drewN 1) (fun _ _ => id)) (Only.of_below G.out (fun j => wr.heap.size ≤ j)) (fun j hj => Nat.not_le.2 (hrow.lt j hj).2)
            have hB6 := (below_draws hB 1).trans (G.out.mono hB.size)
            go_wp2
            go_roundw
            case rel => exact ⟨k + 1, M, by omega, by omega, by go_num, Lib.hid (F2.out.trans F.out), hrow2, hB6⟩
            case measure => simp [intOf]; omega
          · have h2' : decide (y.to < x.fr) = false := by simpa using h2
            have F2 := Lib.hid (show (P.take (k + 1)).filter (minOk L first second) = (P.take k).filter (minOk L first second) ++ [(i : Int)] by rw [HF.out, hq, h2']; rfl)
            clear hq HF h2
            go_wp2_with fail
            refine wp_region_noPanic ?_
            refine wp_region_held_drew (S := (fun w' => w'.rangeAt b (off + second.toNat * 15) (callV y) ∧ w'.rangeAt b (off + i * 15) (callV x))) (by kernel_rfl) ?_ (fun hHeld => ?_)
            · first | exact ⟨fun j v hv => (G.out.cell (p := ⟨b, off + second.toNat * 15 + j, none⟩) hbr).trans (RY.out j v hv), fun j v hv => (G.out.cell (p := ⟨b, off + i * 15 + j, none⟩) hbr).trans (RX.out j v hv)⟩ | exact ⟨RY.out, RX.out⟩
            refine wpAnyH_take (i := 0) (oi := ⟨some 34, _, _, _, _, _⟩) (v := ?_) rfl (by kernel_rfl) (by kernel_rfl) (by kernel_rfl) (fun _ _ _ h => h) (Or.inl ⟨by rfl, ?_⟩) (by assumption) ?_
            rotate_left
            · (intro w hSw; (try dsimp only at hSw); go_simp; try with_reducible rfl)
            try simp only [Act.put, List.setIfInBounds_toArray, List.set_cons_zero, List.set_cons_succ]
            refine wpAnyH_take (i := 1) (oi := ⟨some 35, _, _, _, _, _⟩) (v := ?_) rfl (by kernel_rfl) (by kernel_rfl) (by kernel_rfl) (fun _ _ _ h => h) (Or.inl ⟨by rfl, ?_⟩) (by assumption) ?_
            rotate_left
            · (intro w hSw; (try dsimp only at hSw); go_simp; try with_reducible rfl)
            try simp only [Act.put, List.setIfInBounds_toArray, List.set_cons_zero, List.set_cons_succ]
            refine wpAnyH_take (i := 2) (oi := ⟨some 36, _, _, _, _, _⟩) (v := ?_) rfl (by kernel_rfl) (by kernel_rfl) (by kernel_rfl) (fun _ _ _ h => h) (Or.inl ⟨by rfl, ?_⟩) (by assumption) ?_
            rotate_left
            · (intro w hSw; (try dsimp only at hSw); go_simp; try with_reducible rfl)
            try simp only [Act.put, List.setIfInBounds_toArray, List.set_cons_zero, List.set_cons_succ]
            refine wpAnyH_take (i := 3) (oi := ⟨some 37, _, _, _, _, _⟩) (v := ?_) rfl (by kernel_rfl) (by kernel_rfl) (by kernel_rfl) (fun _ _ _ h => h) (Or.inl ⟨by rfl, ?_⟩) (by assumption) ?_
            rotate_left
            · (intro w hSw; (try dsimp only at hSw); go_simp; try with_reducible rfl)
            try simp only [Act.put, List.setIfInBounds_toArray, List.set_cons_zero, List.set_cons_succ]
            refine wpAnyH_take (i := 4) (oi := ⟨some 38, _, _, _, _, _⟩) (v := ?_) rfl (by kernel_rfl) (by kernel_rfl) (by kernel_rfl) (fun _ _ _ h => h) (Or.inl ⟨by rfl, ?_⟩) (by assumption) ?_
            rotate_left
            · (intro w hSw; (try dsimp only at hSw); go_simp; try with_reducible rfl)
            try simp only [Act.put, List.setIfInBounds_toArray, List.set_cons_zero, List.set_cons_succ]
            refine wpAnyH_take (i := 5) (oi := ⟨some 39, _, _, _, _, _⟩) (v := ?_) rfl (by kernel_rfl) (by kernel_rfl) (by kernel_rfl) (fun _ _ _ h => h) (Or.inl ⟨by rfl, ?_⟩) (by assumption) ?_
            rotate_left
            · (intro w hSw; (try dsimp only at hSw); go_simp; try with_reducible rfl)
            try simp only [Act.put, List.setIfInBounds_toArray, List.set_cons_zero, List.set_cons_succ]
            refine wpAnyH_take (i := 6) (oi := ⟨some 40, _, _, _, _, _⟩) (v := callA y) rfl (by kernel_rfl) (by kernel_rfl) (by kernel_rfl) (fun _ _ _ h => h) (yieldsIf_load_mid (by rfl) 34 _ rfl b (off + second.toNat * 15) rfl (callV y) _ (fun w h => h.1) Try.underlying34 rfl (by kernel_rfl)) (by assumption) ?_
            try simp only [Act.put, List.setIfInBounds_toArray, List.set_cons_zero, List.set_cons_succ]
            refine wpAnyH_take (i := 7) (oi := ⟨some 41, _, _, _, _, _⟩) (v := ?_) rfl (by kernel_rfl) (by kernel_rfl) (by kernel_rfl) (fun _ _ _ h => h) (Or.inl ⟨by rfl, ?_⟩) (by assumption) ?_
            rotate_left
            · (intro w hSw; (try dsimp only at hSw); go_simp; try with_reducible rfl)
            try simp only [Act.put, List.setIfInBounds_toArray, List.set_cons_zero, List.set_cons_succ]
            refine wpAnyH_take (i := 8) (oi := ⟨some 42, _, _, _, _, _⟩) (v := ?_) rfl (by kernel_rfl) (by kernel_rfl) (by kernel_rfl) (fun _ _ _ h => h) (Or.inl ⟨by rfl, ?_⟩) (by assumption) ?_
            rotate_left
            · (intro w hSw; (try dsimp only at hSw); go_simp; try with_reducible rfl)
            try simp only [Act.put, List.setIfInBounds_toArray, List.set_cons_zero, List.set_cons_succ]
            refine wpAnyH_take (i := 9) (oi := ⟨some 43, _, _, _, _, _⟩) (v := ?_) rfl (by kernel_rfl) (by kernel_rfl) (by kernel_rfl) (fun _ _ _ h => h) (Or.inl ⟨by rfl, ?_⟩) (by assumption) ?_
            rotate_left
            · (intro w hSw; (try dsimp only at hSw); go_simp; try with_reducible rfl)
            try simp only [Act.put, List.setIfInBounds_toArray, List.set_cons_zero, List.set_cons_succ]
            refine wpAnyH_take (i := 10) (oi := ⟨some 44, _, _, _, _, _⟩) (v := callA x) rfl (by kernel_rfl) (by kernel_rfl) (by kernel_rfl) (fun _ _ _ h => h) (yieldsIf_load_mid (by rfl) 34 _ rfl b (off + i * 15) rfl (callV x) _ (fun w h => h.2) Try.underlying34 rfl (by kernel_rfl)) (by assumption) ?_
            try simp only [Act.put, List.setIfInBounds_toArray, List.set_cons_zero, List.set_cons_succ]
            refine wpAnyH_ready (rs := [11]) (by kernel_rfl) (by simp) ?_
            refine AllReadyH.cons (o := ⟨some 45, _, _, _, _, _⟩) rfl (fun K hK => ?_) AllReadyH.nil
            go_simp
            refine (hist_Ahead_b y x _).mono ?_
            rw [h2']
            rintro e w6 ⟨rfl, hb6⟩
            have G := Lib.hid hb6
            clear hb6
            go_wp2_with fail
            refine hK.out _ _ ?_ (fun hHeldX => ?_)
            · first | exact ⟨fun j v hv => (G.out.cell (p := ⟨b, off + second.toNat * 15 + j, none⟩) hbr).trans (RY.out j v hv), fun j v hv => (G.out.cell (p := ⟨b, off + i * 15 + j, none⟩) hbr).trans (RX.out j v hv)⟩ | exact ⟨RY.out, RX.out⟩
            clear hK K hHeld
            rename _ => hHeld
            try simp only [Act.put, List.setIfInBounds_toArray, List.set_cons_zero, List.set_cons_succ]
            refine wpAnyH_take (i := 12) (oi := ⟨some 46, _, _, _, _, _⟩) (v := ?_) rfl (by kernel_rfl) (by kernel_rfl) (by kernel_rfl) (fun _ _ _ h => h) (Or.inl ⟨by rfl, ?_⟩) (by assumption) ?_
            rotate_left
            · (intro w hSw; (try dsimp only at hSw); go_simp; try with_reducible rfl)
            try simp only [Act.put, List.setIfInBounds_toArray, List.set_cons_zero, List.set_cons_succ]
            refine wpAnyH_take (i := 13) (oi := ⟨some 47, _, _, _, _, _⟩) (v := ?_) rfl (by kernel_rfl) (by kernel_rfl) (by kernel_rfl) (fun _ _ _ h => h) (Or.inl ⟨by rfl, ?_⟩) (by assumption) ?_
            rotate_left
            · (intro w hSw; (try dsimp only at hSw); go_simp; try with_reducible rfl)
            try simp only [Act.put, List.setIfInBounds_toArray, List.set_cons_zero, List.set_cons_succ]
            refine wpAnyH_done (by kernel_rfl) ?_ _
            refine NoPanic.normal ?_
            have hrow2 := own_only (own_only hrow ((Only.refl (fun _ => False) wr).drewN 1) (fun _ _ => id)) (Only.of_below G.out (fun j => wr.heap.size ≤ j)) (fun j hj => Nat.not_le.2 (hrow.lt j hj).2)
            have hB6 := (below_draws hB 1).trans (G.out.mono hB.size)
            have hs9 := (hB6).size
            go_wp2_with (at_builtin; refine wpList_append_own _ rfl _ _ 23 rfl w3.heap.size 3 i0 (.int .i64 0) 1 8 Try.underlying23 hi hz0 hz1 hz2 rfl (by decide) _ _ _ rfl (hrow2.alloc _) ⟨w6.heap.size, 0, none⟩ 1 1 [.int .i64 (i : Int)] rfl rfl (cell_one_new _ _ _) (by simp [Value.oneCell']) (by simp only [maxLen]; omega) (by omega) (by simp; omega) ?_; intro v' w9 hown' hgrow hnil')
            go_roundw
            case rel => exact ⟨k + 1, M ++ [(i : Int)], by omega, by simp; omega, by go_num, Lib.hid (F2.out.trans (by rw [F.out])), own_snoc hown' (by simp), ((hB6).alloc hs9 _).grown hgrow (by simp at hs9 ⊢; omega) (fun j e => own_base3 hrow j e)⟩
            case measure => simp [intOf]; omega
      · have hf1 : ((i : Int) == first) = false := by simpa using hf
        have O := Lib.hid (show otherZ first second (i : Int) = first by unfold otherZ; rw [if_neg hf])
        clear hf
        rw [O.out] at hq
        clear O
        rcases R1.out with hn | ⟨m, hmo, hml0⟩
        · have hm1 : (first == -1) = true := by simpa using hn
          have F2 := Lib.hid (show (P.take (k + 1)).filter (minOk L first second) = (P.take k).filter (minOk L first second) ++ [(i : Int)] by rw [HF.out, hq, show decide (first = -1) = true by simpa using hn]; rfl)
          clear hq HF hn
          go_wp2_with fail
          refine wp_region_noPanic ?_
          refine wp_region_held_drew (S := (fun _ => True)) (by kernel_rfl) ?_ (fun hHeld => ?_)
          · exact trivial
          refine wpAnyH_take (i := 0) (oi := ⟨some 34, _, _, _, _, _⟩) (v := ?_) rfl (by kernel_rfl) (by kernel_rfl) (by kernel_rfl) (fun _ _ _ h => h) (Or.inl ⟨by rfl, ?_⟩) (by assumption) ?_
          rotate_left
          · (intro w hSw; (try dsimp only at hSw); go_simp; try with_reducible rfl)
          try simp only [Act.put, List.setIfInBounds_toArray, List.set_cons_zero, List.set_cons_succ]
          refine wpAnyH_take (i := 1) (oi := ⟨some 35, _, _, _, _, _⟩) (v := ?_) rfl (by kernel_rfl) (by kernel_rfl) (by kernel_rfl) (fun _ _ _ h => h) (Or.inl ⟨by rfl, ?_⟩) (by assumption) ?_
          rotate_left
          · (intro w hSw; (try dsimp only at hSw); go_simp; try with_reducible rfl)
          try simp only [Act.put, List.setIfInBounds_toArray, List.set_cons_zero, List.set_cons_succ]
          refine wpAnyH_take (i := 2) (oi := ⟨some 36, _, _, _, _, _⟩) (v := ?_) rfl (by kernel_rfl) (by kernel_rfl) (by kernel_rfl) (fun _ _ _ h => h) (Or.inl ⟨by rfl, ?_⟩) (by assumption) ?_
          rotate_left
          · (intro w hSw; (try dsimp only at hSw); go_simp; try with_reducible rfl)
          try simp only [Act.put, List.setIfInBounds_toArray, List.set_cons_zero, List.set_cons_succ]
          refine wpAnyH_take (i := 3) (oi := ⟨some 37, _, _, _, _, _⟩) (v := undef) rfl (by kernel_rfl) (by kernel_rfl) (by kernel_rfl) (fun _ _ _ h => h) (Or.inr ⟨by rfl, rfl⟩) (by assumption) ?_
          try simp only [Act.put, List.setIfInBounds_toArray, List.set_cons_zero, List.set_cons_succ]
          refine wpAnyH_take (i := 4) (oi := ⟨some 38, _, _, _, _, _⟩) (v := undef) rfl (by kernel_rfl) (by kernel_rfl) (by kernel_rfl) (fun _ _ _ h => h) (Or.inr ⟨by rfl, rfl⟩) (by assumption) ?_
          try simp only [Act.put, List.setIfInBounds_toArray, List.set_cons_zero, List.set_cons_succ]
          refine wpAnyH_take (i := 5) (oi := ⟨some 39, _, _, _, _, _⟩) (v := undef) rfl (by kernel_rfl) (by kernel_rfl) (by kernel_rfl) (fun _ _ _ h => h) (Or.inr ⟨by rfl, rfl⟩) (by assumption) ?_
          try simp only [Act.put, List.setIfInBounds_toArray, List.set_cons_zero, List.set_cons_succ]
          refine wpAnyH_take (i := 6) (oi := ⟨some 40, _, _, _, _, _⟩) (v := undef) rfl (by kernel_rfl) (by kernel_rfl) (by kernel_rfl) (fun _ _ _ h => h) (Or.inr ⟨by rfl, rfl⟩) (by assumption) ?_
          try simp only [Act.put, List.setIfInBounds_toArray, List.set_cons_zero, List.set_cons_succ]
          refine wpAnyH_take (i := 7) (oi := ⟨some 41, _, _, _, _, _⟩) (v := undef) rfl (by kernel_rfl) (by kernel_rfl) (by kernel_rfl) (fun _ _ _ h => h) (Or.inr ⟨by rfl, rfl⟩) (by assumption) ?_
          try simp only [Act.put, List.setIfInBounds_toArray, List.set_cons_zero, List.set_cons_succ]
          refine wpAnyH_take (i := 8) (oi := ⟨some 42, _, _, _, _, _⟩) (v := undef) rfl (by kernel_rfl) (by kernel_rfl) (by kernel_rfl) (fun _ _ _ h => h) (Or.inr ⟨by rfl, rfl⟩) (by assumption) ?_
          try simp only [Act.put, List.setIfInBounds_toArray, List.set_cons_zero, List.set_cons_succ]
          refine wpAnyH_take (i := 9) (oi := ⟨some 43, _, _, _, _, _⟩) (v := undef) rfl (by kernel_rfl) (by kernel_rfl) (by kernel_rfl) (fun _ _ _ h => h) (Or.inr ⟨by rfl, rfl⟩) (by assumption) ?_
          try simp only [Act.put, List.setIfInBounds_toArray, List.set_cons_zero, List.set_cons_succ]
          refine wpAnyH_take (i := 10) (oi := ⟨some 44, _, _, _, _, _⟩) (v := undef) rfl (by kernel_rfl) (by kernel_rfl) (by kernel_rfl) (fun _ _ _ h => h) (Or.inr ⟨by rfl, rfl⟩) (by assumption) ?_
          try simp only [Act.put, List.setIfInBounds_toArray, List.set_cons_zero, List.set_cons_succ]
          refine wpAnyH_take (i := 11) (oi := ⟨some 45, _, _, _, _, _⟩) (v := undef) rfl (by kernel_rfl) (by kernel_rfl) (by kernel_rfl) (fun _ _ _ h => h) (Or.inr ⟨by rfl, rfl⟩) (by assumption) ?_
          try simp only [Act.put, List.setIfInBounds_toArray, List.set_cons_zero, List.set_cons_succ]
          refine wpAnyH_take (i := 12) (oi := ⟨some 46, _, _, _, _, _⟩) (v := undef) rfl (by kernel_rfl) (by kernel_rfl) (by kernel_rfl) (fun _ _ _ h => h) (Or.inr ⟨by rfl, rfl⟩) (by assumption) ?_
          try simp only [Act.put, List.setIfInBounds_toArray, List.set_cons_zero, List.set_cons_succ]
          refine wpAnyH_take (i := 13) (oi := ⟨some 47, _, _, _, _, _⟩) (v := ?_) rfl (by kernel_rfl) (by kernel_rfl) (by kernel_rfl) (fun _ _ _ h => h) (Or.inl ⟨by rfl, ?_⟩) (by assumption) ?_
          rotate_left
          · (intro w hSw; (try dsimp only at hSw); go_simp; try with_reducible rfl)
          try simp only [Act.put, List.setIfInBounds_toArray, List.set_cons_zero, List.set_cons_succ]
          refine wpAnyH_done (by kernel_rfl) ?_ _
          refine NoPanic.normal ?_
          have hrow2 := own_only hrow ((Only.refl (fun _ => False) wr).drewN 1) (fun _ _ => id)
          have hs9 := (below_draws hB 1).size
          go_wp2_with (at_builtin; refine wpList_append_own _ rfl _ _ 23 rfl w3.heap.size 3 i0 (.int .i64 0) 1 8 Try.underlying23 hi hz0 hz1 hz2 rfl (by decide) _ _ _ rfl (hrow2.alloc _) ⟨wr.heap.size, 0, none⟩ 1 1 [.int .i64 (i : Int)] rfl rfl (cell_one_new _ _ _) (by simp [Value.oneCell']) (by simp only [maxLen]; omega) (by omega) (by simp; omega) ?_; intro v' w9 hown' hgrow hnil')
          go_roundw
          case rel => exact ⟨k + 1, M ++ [(i : Int)], by omega, by simp; omega, by go_num, Lib.hid (F2.out.trans (by rw [F.out])), own_snoc hown' (by simp), ((below_draws hB 1).alloc hs9 _).grown hgrow (by simp at hs9 ⊢; omega) (fun j e => own_base3 hrow j e)⟩
          case measure => simp [intOf]; omega
        · have hml : first.toNat < L.length := by omega
          have hm1 : (first == -1) = false := by simp; omega
          have hm2 : first < (L.length : Int) := by omega
          have hm3 : 0 ≤ first := by omega
          have hi2 : (i : Int) < (L.length : Int) := by omega
          have hi3 : (0 : Int) ≤ (i : Int) := by omega
          have hdz : decide (first = -1) = false := by simp; omega
          have hat : atZ L first = L[first.toNat] := by unfold atZ; rw [List.getD_eq_getElem?_getD, List.getElem?_eq_getElem hml]; rfl
          obtain ⟨b', off', e', _, hrgy⟩ := H.out.range hml
          cases e'
          have hwr : Below w.heap.size w wr := P3.out.2.trans (hB.mono P3.out.2.size)
          have RY := Lib.hid (show wr.rangeAt b (off + first.toNat * 15) (callV L[first.toNat]) from fun j v hv => (hwr.cell (p := ⟨b, off + first.toNat * 15 + j, none⟩) hbw).trans (hrgy j v hv))
          rw [hdz, hat, Bool.false_or] at hq
          generalize L[first.toNat] = y at RY hq
          clear hrgy hwr hat hdz hmo hml0
          by_cases h2 : y.to < x.fr
          · have h2' : decide (y.to < x.fr) = true := by simpa using h2
            have F2 := Lib.hid (show (P.take (k + 1)).filter (minOk L first second) = (P.take k).filter (minOk L first second) by rw [HF.out, hq, h2']; simp)
            clear hq HF h2
            go_wp2_with fail
            refine wp_region_noPanic ?_
            refine wp_region_held_drew (S := (fun w' => w'.rangeAt b (off + first.toNat * 15) (callV y) ∧ w'.rangeAt b (off + i * 15) (callV x))) (by kernel_rfl) ?_ (fun hHeld => ?_)
            · first | exact ⟨fun j v hv => (G.out.cell (p := ⟨b, off + first.toNat * 15 + j, none⟩) hbr).trans (RY.out j v hv), fun j v hv => (G.out.cell (p := ⟨b, off + i * 15 + j, none⟩) hbr).trans (RX.out j v hv)⟩ | exact ⟨RY.out, RX.out⟩
            refine wpAnyH_take (i := 0) (oi := ⟨some 34, _, _, _, _, _⟩) (v := ?_) rfl (by kernel_rfl) (by kernel_rfl) (by kernel_rfl) (fun _ _ _ h => h) (Or.inl ⟨by rfl, ?_⟩) (by assumption) ?_
            rotate_left
            · (intro w hSw; (try dsimp only at hSw); go_simp; try with_reducible rfl)
            try simp only [Act.put, List.setIfInBounds_toArray, List.set_cons_zero, List.set_cons_succ]
            refine wpAnyH_take (i := 1) (oi := ⟨some 35, _, _, _, _, _⟩) (v := ?_) rfl (by kernel_rfl) (by kernel_rfl) (by kernel_rfl) (fun _ _ _ h => h) (Or.inl ⟨by rfl, ?_⟩) (by assumption) ?_
            rotate_left
            · (intro w hSw; (try dsimp only at hSw); go_simp; try with_reducible rfl)
            try simp only [Act.put, List.setIfInBounds_toArray, List.set_cons_zero, List.set_cons_succ]
            refine wpAnyH_take (i := 2) (oi := ⟨some 36, _, _, _, _, _⟩) (v := ?_) rfl (by kernel_rfl) (by kernel_rfl) (by kernel_rfl) (fun _ _ _ h => h) (Or.inl ⟨by rfl, ?_⟩) (by assumption) ?_
            rotate_left
            · (intro w hSw; (try dsimp only at hSw); go_simp; try with_reducible rfl)
            try simp only [Act.put, List.setIfInBounds_toArray, List.set_cons_zero, List.set_cons_succ]
            refine wpAnyH_take (i := 3) (oi := ⟨some 37, _, _, _, _, _⟩) (v := ?_) rfl (by kernel_rfl) (by kernel_rfl) (by kernel_rfl) (fun _ _ _ h => h) (Or.inl ⟨by rfl, ?_⟩) (by assumption) ?_
            rotate_left
            · (intro w hSw; (try dsimp only at hSw); go_simp; try with_reducible rfl)
            try simp only [Act.put, List.setIfInBounds_toArray, List.set_cons_zero, List.set_cons_succ]
            refine wpAnyH_take (i := 4) (oi := ⟨some 38, _, _, _, _, _⟩) (v := ?_) rfl (by kernel_rfl) (by kernel_rfl) (by kernel_rfl) (fun _ _ _ h => h) (Or.inl ⟨by rfl, ?_⟩) (by assumption) ?_
            rotate_left
            · (intro w hSw; (try dsimp only at hSw); go_simp; try with_reducible rfl)
            try simp only [Act.put, List.setIfInBounds_toArray, List.set_cons_zero, List.set_cons_succ]
            refine wpAnyH_take (i := 5) (oi := ⟨some 39, _, _, _, _, _⟩) (v := ?_) rfl (by kernel_rfl) (by kernel_rfl) (by kernel_rfl) (fun _ _ _ h => h) (Or.inl ⟨by rfl, ?_⟩) (by assumption) ?_
            rotate_left
            · (intro w hSw; (try dsimp only at hSw); go_simp; try with_reducible rfl)
            try simp only [Act.put, List.setIfInBounds_toArray, List.set_cons_zero, List.set_cons_succ]
            refine wpAnyH_take (i := 6) (oi := ⟨some 40, _, _, _, _, _⟩) (v := callA y) rfl (by kernel_rfl) (by kernel_rfl) (by kernel_rfl) (fun _ _ _ h => h) (yieldsIf_load_mid (by rfl) 34 _ rfl b (off + first.toNat * 15) rfl (callV y) _ (fun w h => h.1) Try.underlying34 rfl (by kernel_rfl)) (by assumption) ?_
            try simp only [Act.put, List.setIfInBounds_toArray, List.set_cons_zero, List.set_cons_succ]
            refine wpAnyH_take (i := 7) (oi := ⟨some 41, _, _, _, _, _⟩) (v := ?_) rfl (by kernel_rfl) (by kernel_rfl) (by kernel_rfl) (fun _ _ _ h => h) (Or.inl ⟨by rfl, ?_⟩) (by assumption) ?_
            rotate_left
            · (intro w hSw; (try dsimp only at hSw); go_simp; try with_reducible rfl)
            try simp only [Act.put, List.setIfInBounds_toArray, List.set_cons_zero, List.set_cons_succ]
            refine wpAnyH_take (i := 8) (oi := ⟨some 42, _, _, _, _, _⟩) (v := ?_) rfl (by kernel_rfl) (by kernel_rfl) (by kernel_rfl) (fun _ _ _ h => h) (Or.inl ⟨by rfl, ?_⟩) (by assumption) ?_
            rotate_left
            · (intro w hSw; (try dsimp only at hSw); go_simp; try with_reducible rfl)
            try simp only [Act.put, List.setIfInBounds_toArray, List.set_cons_zero, List.set_cons_succ]
            refine wpAnyH_take (i := 9) (oi := ⟨some 43, _, _, _, _, _⟩) (v := ?_) rfl (by kernel_rfl) (by kernel_rfl) (by kernel_rfl) (fun _ _ _ h => h) (Or.inl ⟨by rfl, ?_⟩) (by assumption) ?_
            rotate_left
            · (intro w hSw; (try dsimp only at hSw); go_simp; try with_reducible rfl)
            try simp only [Act.put, List.setIfInBounds_toArray, List.set_cons_zero, List.set_cons_succ]
            refine wpAnyH_take (i := 10) (oi := ⟨some 44, _, _, _, _, _⟩) (v := callA x) rfl (by kernel_rfl) (by kernel_rfl) (by kernel_rfl) (fun _ _ _ h => h) (yieldsIf_load_mid (by rfl) 34 _ rfl b (off + i * 15) rfl (callV x) _ (fun w h => h.2) Try.underlying34 rfl (by kernel_rfl)) (by assumption) ?_
            try simp only [Act.put, List.setIfInBounds_toArray, List.set_cons_zero, List.set_cons_succ]
            refine wpAnyH_ready (rs := [11]) (by kernel_rfl) (by simp) ?_
            refine AllReadyH.cons (o := ⟨some 45, _, _, _, _, _⟩) rfl (fun K hK => ?_) AllReadyH.nil
            go_simp
            refine (hist_Ahead_b y x _).mono ?_
            rw [h2']
            rintro e w6 ⟨rfl, hb6⟩
            have G := Lib.hid hb6
            clear hb6
            go_wp2_with fail
            refine hK.out _ _ ?_ (fun hHeldX => ?_)
            · first | exact ⟨fun j v hv => (G.out.cell (p := ⟨b, off + first.toNat * 15 + j, none⟩) hbr).trans (RY.out j v hv), fun j v hv => (G.out.cell (p := ⟨b, off + i * 15 + j, none⟩) hbr).trans (RX.out j v hv)⟩ | exact ⟨RY.out, RX.out⟩
            clear hK K hHeld
            rename _ => hHeld
            try simp only [Act.put, List.setIfInBounds_toArray, List.set_cons_zero, List.set_cons_succ]
            refine wpAnyH_take (i := 12) (oi := ⟨some 46, _, _, _, _, _⟩) (v := ?_) rfl (by kernel_rfl) (by kernel_rfl) (by kernel_rfl) (fun _ _ _ h => h) (Or.inl ⟨by rfl, ?_⟩) (by assumption) ?_
            rotate_left
            · (intro w hSw; (try dsimp only at hSw); go_simp; try with_reducible rfl)
            try simp only [Act.put, List.setIfInBounds_toArray, List.set_cons_zero, List.set_cons_succ]
            refine wpAnyH_take (i := 13) (oi := ⟨some 47, _, _, _, _, _⟩) (v := ?_) rfl (by kernel_rfl) (by kernel_rfl) (by kernel_rfl) (fun _ _ _ h => h) (Or.inl ⟨by rfl, ?_⟩) (by assumption) ?_
            rotate_left
            · (intro w hSw; (try dsimp only at hSw); go_simp; try with_reducible rfl)
            try simp only [Act.put, List.setIfInBounds_toArray, List.set_cons_zero, List.set_cons_succ]
            refine wpAnyH_done (by kernel_rfl) ?_ _
            refine NoPanic.normal ?_
            have hrow2 := own_only (own_only hrow ((Only.refl (fun _ => False) wr).drewN 1) (fun _ _ => id)) (Only.of_below G.out (fun j => wr.heap.size ≤ j)) (fun j hj => Nat.not_le.2 (hrow.lt j hj).2)
            have hB6 := (below_draws hB 1).trans (G.out.mono hB.size)
            go_wp2
            go_roundw
            case rel => exact ⟨k + 1, M, by omega, by omega, by go_num, Lib.hid (F2.out.trans F.out), hrow2, hB6⟩
            case measure => simp [intOf]; omega
          · have h2' : decide (y.to < x.fr) = false := by simpa using h2
            have F2 := Lib.hid (show (P.take (k + 1)).filter (minOk L first second) = (P.take k).filter (minOk L first second) ++ [(i : Int)] by rw [HF.out, hq, h2']; rfl)
            clear hq HF h2
            go_wp2_with fail
            refine wp_region_noPanic ?_
            refine wp_region_held_drew (S := (fun w' => w'.rangeAt b (off + first.toNat * 15) (callV y) ∧ w'.rangeAt b (off + i * 15) (callV x))) (by kernel_rfl) ?_ (fun hHeld => ?_)
            · first | exact ⟨fun j v hv => (G.out.cell (p := ⟨b, off + first.toNat * 15 + j, none⟩) hbr).trans (RY.out j v hv), fun j v hv => (G.out.cell (p := ⟨b, off + i * 15 + j, none⟩) hbr).trans (RX.out j v hv)⟩ | exact ⟨RY.out, RX.out⟩
            refine wpAnyH_take (i := 0) (oi := ⟨some 34, _, _, _, _, _⟩) (v := ?_) rfl (by kernel_rfl) (by kernel_rfl) (by kernel_rfl) (fun _ _ _ h => h) (Or.inl ⟨by rfl, ?_⟩) (by assumption) ?_
            rotate_left
            · (intro w hSw; (try dsimp only at hSw); go_simp; try with_reducible rfl)
            try simp only [Act.put, List.setIfInBounds_toArray, List.set_cons_zero, List.set_cons_succ]
            refine wpAnyH_take (i := 1) (oi := ⟨some 35, _, _, _, _, _⟩) (v := ?_) rfl (by kernel_rfl) (by kernel_rfl) (by kernel_rfl) (fun _ _ _ h => h) (Or.inl ⟨by rfl, ?_⟩) (by assumption) ?_
            rotate_left
            · (intro w hSw; (try dsimp only at hSw); go_simp; try with_reducible rfl)
            try simp only [Act.put, List.setIfInBounds_toArray, List.set_cons_zero, List.set_cons_succ]
            refine wpAnyH_take (i := 2) (oi := ⟨some 36, _, _, _, _, _⟩) (v := ?_) rfl (by kernel_rfl) (by kernel_rfl) (by kernel_rfl) (fun _ _ _ h => h) (Or.inl ⟨by rfl, ?_⟩) (by assumption) ?_
            rotate_left
            · (intro w hSw; (try dsimp only at hSw); go_simp; try with_reducible rfl)
            try simp only [Act.put, List.setIfInBounds_toArray, List.set_cons_zero, List.set_cons_succ]
            refine wpAnyH_take (i := 3) (oi := ⟨some 37, _, _, _, _, _⟩) (v := ?_) rfl (by kernel_rfl) (by kernel_rfl) (by kernel_rfl) (fun _ _ _ h => h) (Or.inl ⟨by rfl, ?_⟩) (by assumption) ?_
            rotate_left
            · (intro w hSw; (try dsimp only at hSw); go_simp; try with_reducible rfl)
            try simp only [Act.put, List.setIfInBounds_toArray, List.set_cons_zero, List.set_cons_succ]
            refine wpAnyH_take (i := 4) (oi := ⟨some 38, _, _, _, _, _⟩) (v := ?_) rfl (by kernel_rfl) (by kernel_rfl) (by kernel_rfl) (fun _ _ _ h => h) (Or.inl ⟨by rfl, ?_⟩) (by assumption) ?_
            rotate_left
            · (intro w hSw; (try dsimp only at hSw); go_simp; try with_reducible rfl)
            try simp only [Act.put, List.setIfInBounds_toArray, List.set_cons_zero, List.set_cons_succ]
            refine wpAnyH_take (i := 5) (oi := ⟨some 39, _, _, _, _, _⟩) (v := ?_) rfl (by kernel_rfl) (by kernel_rfl) (by kernel_rfl) (fun _ _ _ h => h) (Or.inl ⟨by rfl, ?_⟩) (by assumption) ?_
            rotate_left
            · (intro w hSw; (try dsimp only at hSw); go_simp; try with_reducible rfl)
            try simp only [Act.put, List.setIfInBounds_toArray, List.set_cons_zero, List.set_cons_succ]
            refine wpAnyH_take (i := 6) (oi := ⟨some 40, _, _, _, _, _⟩) (v := callA y) rfl (by kernel_rfl) (by kernel_rfl) (by kernel_rfl) (fun _ _ _ h => h) (yieldsIf_load_mid (by rfl) 34 _ rfl b (off + first.toNat * 15) rfl (callV y) _ (fun w h => h.1) Try.underlying34 rfl (by kernel_rfl)) (by assumption) ?_
            try simp only [Act.put, List.setIfInBounds_toArray, List.set_cons_zero, List.set_cons_succ]
            refine wpAnyH_take (i := 7) (oi := ⟨some 41, _, _, _, _, _⟩) (v := ?_) rfl (by kernel_rfl) (by kernel_rfl) (by kernel_rfl) (fun _ _ _ h => h) (Or.inl ⟨by rfl, ?_⟩) (by assumption) ?_
            rotate_left
            · (intro w hSw; (try dsimp only at hSw); go_simp; try with_reducible rfl)
            try simp only [Act.put, List.setIfInBounds_toArray, List.set_cons_zero, List.set_cons_succ]
            refine wpAnyH_take (i := 8) (oi := ⟨some 42, _, _, _, _, _⟩) (v := ?_) rfl (by kernel_rfl) (by kernel_rfl) (by kernel_rfl) (fun _ _ _ h => h) (Or.inl ⟨by rfl, ?_⟩) (by assumption) ?_
            rotate_left
            · (intro w hSw; (try dsimp only at hSw); go_simp; try with_reducible rfl)
            try simp only [Act.put, List.setIfInBounds_toArray, List.set_cons_zero, List.set_cons_succ]
            refine wpAnyH_take (i := 9) (oi := ⟨some 43, _, _, _, _, _⟩) (v := ?_) rfl (by kernel_rfl) (by kernel_rfl) (by kernel_rfl) (fun _ _ _ h => h) (Or.inl ⟨by rfl, ?_⟩) (by assumption) ?_
            rotate_left
            · (intro w hSw; (try dsimp only at hSw); go_simp; try with_reducible rfl)
            try simp only [Act.put, List.setIfInBounds_toArray, List.set_cons_zero, List.set_cons_succ]
            refine wpAnyH_take (i := 10) (oi := ⟨some 44, _, _, _, _, _⟩) (v := callA x) rfl (by kernel_rfl) (by kernel_rfl) (by kernel_rfl) (fun _ _ _ h => h) (yieldsIf_load_mid (by rfl) 34 _ rfl b (off + i * 15) rfl (callV x) _ (fun w h => h.2) Try.underlying34 rfl (by kernel_rfl)) (by assumption) ?_
            try simp only [Act.put, List.setIfInBounds_toArray, List.set_cons_zero, List.set_cons_succ]
            refine wpAnyH_ready (rs := [11]) (by kernel_rfl) (by simp) ?_
            refine AllReadyH.cons (o := ⟨some 45, _, _, _, _, _⟩) rfl (fun K hK => ?_) AllReadyH.nil
            go_simp
            refine (hist_Ahead_b y x _).mono ?_
            rw [h2']
            rintro e w6 ⟨rfl, hb6⟩
            have G := Lib.hid hb6
            clear hb6
            go_wp2_with fail
            refine hK.out _ _ ?_ (fun hHeldX => ?_)
            · first | exact ⟨fun j v hv => (G.out.cell (p := ⟨b, off + first.toNat * 15 + j, none⟩) hbr).trans (RY.out j v hv), fun j v hv => (G.out.cell (p := ⟨b, off + i * 15 + j, none⟩) hbr).trans (RX.out j v hv)⟩ | exact ⟨RY.out, RX.out⟩
            clear hK K hHeld
            rename _ => hHeld
            try simp only [Act.put, List.setIfInBounds_toArray, List.set_cons_zero, List.set_cons_succ]
            refine wpAnyH_take (i := 12) (oi := ⟨some 46, _, _, _, _, _⟩) (v := ?_) rfl (by kernel_rfl) (by kernel_rfl) (by kernel_rfl) (fun _ _ _ h => h) (Or.inl ⟨by rfl, ?_⟩) (by assumption) ?_
            rotate_left
            · (intro w hSw; (try dsimp only at hSw); go_simp; try with_reducible rfl)
            try simp only [Act.put, List.setIfInBounds_toArray, List.set_cons_zero, List.set_cons_succ]
            refine wpAnyH_take (i := 13) (oi := ⟨some 47, _, _, _, _, _⟩) (v := ?_) rfl (by kernel_rfl) (by kernel_rfl) (by kernel_rfl) (fun _ _ _ h => h) (Or.inl ⟨by rfl, ?_⟩) (by assumption) ?_
            rotate_left
            · (intro w hSw; (try dsimp only at hSw); go_simp; try with_reducible rfl)
            try simp only [Act.put, List.setIfInBounds_toArray, List.set_cons_zero, List.set_cons_succ]
            refine wpAnyH_done (by kernel_rfl) ?_ _
            refine NoPanic.normal ?_
            have hrow2 := own_only (own_only hrow ((Only.refl (fun _ => False) wr).drewN 1) (fun _ _ => id)) (Only.of_below G.out (fun j => wr.heap.size ≤ j)) (fun j hj => Nat.not_le.2 (hrow.lt j hj).2)
            have hB6 := (below_draws hB 1).trans (G.out.mono hB.size)
            have hs9 := (hB6).size
            go_wp2_with (at_builtin; refine wpList_append_own _ rfl _ _ 23 rfl w3.heap.size 3 i0 (.int .i64 0) 1 8 Try.underlying23 hi hz0 hz1 hz2 rfl (by decide) _ _ _ rfl (hrow2.alloc _) ⟨w6.heap.size, 0, none⟩ 1 1 [.int .i64 (i : Int)] rfl rfl (cell_one_new _ _ _) (by simp [Value.oneCell']) (by simp only [maxLen]; omega) (by omega) (by simp; omega) ?_; intro v' w9 hown' hgrow hnil')
            go_roundw
            case rel => exact ⟨k + 1, M ++ [(i : Int)], by omega, by simp; omega, by go_num, Lib.hid (F2.out.trans (by rw [F.out])), own_snoc hown' (by simp), ((hB6).alloc hs9 _).grown hgrow (by simp at hs9 ⊢; omega) (fun j e => own_base3 hrow j e)⟩
            case measure => simp [intOf]; omega
    · obtain rfl : k = P.length := by omega
      go_wp2
      go_ret
      refine ⟨_, rfl, ?_, P3.out.2.trans (hB.mono P3.out.2.size)⟩
      rw [E.out, ← List.take_length (l := P), F.out]
      exact own_low hrow P3.out.2.size
theorem hist_Minimal {w : World} {v : Value} {L : List CallZ} {ad : Option Addr} {D : List Bool} {capd : Nat} (hL : CallsIn w v L) (hLl : L.length ≤ 100000) (hD : ListIn Value.bool w ad D) :
    Calls Try.prog 48 #[v, .slice ad D.length capd] w fun e w' => ∃ r, e = .returned r ∧ NumsIn w' r (minZ L D) ∧ Below w.heap.size w w' :=
  (hist_MinimalO hL hLl hD).mono fun _ _ ⟨r, h, ho, hb⟩ => ⟨r, h, SliceK.of_own ho, hb⟩

end Go.Proofs.Ythngehpmoiojfaa
