/- Layer 9 (package epoch): Waiting, behind, Pin, Unpin, Retire, Advance. -/
import Derived.Test.YtkbappdlijmjlaaEpoch9
import Derived.Test.YtkbappdlijmjlaaStep
import Derived.Deep.RegionHeld3
import Derived.Deep.Cut
namespace Go.Proofs.Ytkbappdlijmjlaa
open Go.RowKit

theorem ep_Waiting {w : World} {lo B P : Nat} {v : Nat → Value} {x : Ep} (h : EpIs w lo B P v x) (hq : ∀ j, j < 3 → (x.q j).length ≤ 1000000) : Calls Try.prog 19 #[.pointer (some ⟨B, 0, none⟩)] w fun e w' => e = .returned (.int .i64 ((((x.q 0).length + (x.q 1).length + (x.q 2).length : Nat)) : Int)) ∧ w = w' := by
  have c2 := h.blk.at (o := 2) rfl
  have c3 := h.blk.at (o := 3) rfl
  have c4 := h.blk.at (o := 4) rfl
  obtain ⟨a0, n0, e0⟩ := own_form (h.own.own 0 (by omega))
  obtain ⟨a1, n1, e1⟩ := own_form (h.own.own 1 (by omega))
  obtain ⟨a2, n2, e2⟩ := own_form (h.own.own 2 (by omega))
  rw [e0] at c2
  rw [e1] at c3
  rw [e2] at c4
  have l0 := hq 0 (by omega)
  have l1 := hq 1 (by omega)
  have l2 := hq 2 (by omega)
  generalize (x.q 0).length = m0 at *
  generalize (x.q 1).length = m1 at *
  generalize (x.q 2).length = m2 at *
  clear h hq e0 e1 e2
  go_enter Try.func19, Try.ntmps19
  have hsz : (Try.prog.types[32]).size = 1 := by kernel_rfl
  go_wp2_with fail
  go_loopw [3, 12] (fun c i wr => ((i = .int .i64 0 ∧ c = .int .i64 0) ∨ (i = .int .i64 1 ∧ c = .int .i64 (m0 : Int)) ∨ (i = .int .i64 2 ∧ c = .int .i64 ((m0 : Int) + (m1 : Int))) ∨ (i = .int .i64 3 ∧ c = .int .i64 ((m0 : Int) + (m1 : Int) + (m2 : Int)))) ∧ w = wr) (fun _ i _ => 3 - (intOf i).toNat)
  case atStart => exact ⟨.inl ⟨rfl, rfl⟩, rfl⟩
  case round =>
    obtain ⟨⟨rfl, rfl⟩ | ⟨rfl, rfl⟩ | ⟨rfl, rfl⟩ | ⟨rfl, rfl⟩, rfl⟩ := hrel
    · go_wp2
      rename_i hKx
      refine hKx _ _ ?_
      simp only [hsz, Act.put, List.setIfInBounds_toArray, List.set_cons_zero, List.set_cons_succ]
      simp
      go_wp2
      go_roundw
      case rel => exact ⟨.inr (.inl ⟨rfl, by first | rfl | simp⟩), by trivial⟩
      case measure => simp [intOf]
    · go_wp2
      rename_i hKx
      refine hKx _ _ ?_
      simp only [hsz, Act.put, List.setIfInBounds_toArray, List.set_cons_zero, List.set_cons_succ]
      simp
      go_wp2
      go_roundw
      case rel => exact ⟨.inr (.inr (.inl ⟨rfl, by first | rfl | simp⟩)), by trivial⟩
      case measure => simp [intOf]
    · go_wp2
      rename_i hKx
      refine hKx _ _ ?_
      simp only [hsz, Act.put, List.setIfInBounds_toArray, List.set_cons_zero, List.set_cons_succ]
      simp
      go_wp2
      go_roundw
      case rel => exact ⟨.inr (.inr (.inr ⟨rfl, by first | rfl | simp⟩)), by trivial⟩
      case measure => simp [intOf]
    · go_wp2
      go_ret
      simp
def behindZ (x : Ep) : Bool := x.pins.any (fun p => p.isSome && !decide (p.getD 0 = x.now))
theorem EpIs.pinned {w w' : World} {lo B P : Nat} {v : Nat → Value} {x : Ep} {i : Nat} {p : Option Nat} (h : EpIs w lo B P v x) (hi : i < x.pins.length) (e : (w.setCell ⟨P, i * 2, none⟩ (.bool p.isSome)).setCell ⟨P, i * 2 + 1, none⟩ (.int .i64 ((p.getD 0 : Nat) : Int)) = w') :
    EpIs w' lo B P v ⟨x.now, x.pins.set i p, x.q⟩ ∧ Only (· = P) w w' := by
  have ho : Only (· = P) w w' := e ▸ (only_at _ _ _ _).trans (only_at _ _ _ _)
  refine ⟨⟨?_, ?_, h.own.only ho (fun k hk => h.apartP hk)⟩, ho⟩
  · have := h.blk.only ho h.ne
    simpa [epV] using this
  · have hb := (h.row.set (i * 2) (.bool p.isSome)).set (i * 2 + 1) (.int .i64 ((p.getD 0 : Nat) : Int))
    rw [e] at hb
    have hr := recRow_flat pinV_len x.pins
    have hl : (x.pins.flatMap pinV).length = x.pins.length * 2 := hr.len
    have ht := hr.turn pinV_len (i := i) (y := p) (l' := ((x.pins.flatMap pinV).set (i * 2) (.bool p.isSome)).set (i * 2 + 1) (.int .i64 ((p.getD 0 : Nat) : Int))) (((But.refl _ _).set (by constructor <;> omega) _).set (by constructor <;> omega) _) (fun j u hu => by
      have hj : j < 2 := by rw [← pinV_len p]; exact (List.getElem?_eq_some_iff.1 hu).1
      rcases (by omega : j = 0 ∨ j = 1) with rfl | rfl
      · rw [pinV_0] at hu
        cases hu
        rw [List.getElem?_set_ne (by omega), Nat.add_zero, List.getElem?_set_self (by rw [hl]; omega)]
      · rw [pinV_1] at hu
        cases hu
        rw [List.getElem?_set_self (by rw [List.length_set, hl]; omega)])
    rw [ht.flat (by omega) pinV_len] at hb
    exact hb
set_option maxHeartbeats 1000000 in
theorem ep_Pin {w : World} {lo B P : Nat} {v : Nat → Value} {x : Ep} (h : EpIs w lo B P v x) (t : Int) : Calls Try.prog 9 #[.pointer (some ⟨B, 0, none⟩), .int .i64 t] w fun e w' => e = .returned (.bool (hasT x t && !isPin x t)) ∧
    EpIs w' lo B P v ⟨x.now, if hasT x t && !isPin x t then x.pins.set t.toNat (some x.now) else x.pins, x.q⟩ ∧ Only (· = P) w w' := by
  have c0 := h.blk.at (o := 0) rfl
  have c1 := h.blk.at (o := 1) rfl
  have H := Lib.hid (ep_has h t)
  have K0 := Lib.hid h
  cases hh : hasT x t with
  | false =>
    rw [hh] at H
    clear h
    go_enter Try.func9, Try.ntmps9
    go_wp2_with fail
    refine H.out.mono ?_
    rintro e w' ⟨rfl, rfl⟩
    go_wp2
    go_ret
    exact ⟨rfl, K0.out, Only.refl _ _⟩
  | true =>
    rw [hh] at H
    obtain ⟨i, rfl, hi⟩ : ∃ i : Nat, t = (i : Int) ∧ i < x.pins.length := ⟨t.toNat, by simp [hasT] at hh; omega, by simp [hasT] at hh; omega⟩
    have hp : isPin x (i : Int) = (x.pins[i]).isSome := by unfold isPin; rw [hh]; simp [List.getD, hi]
    rw [hp]
    obtain ⟨c2, c3⟩ := h.pin (List.getElem?_eq_getElem hi)
    clear h hh hp
    cases hs : x.pins[i] with
    | some e0 =>
      rw [hs] at c2
      simp only [Option.isSome_some] at c2 ⊢
      go_enter Try.func9, Try.ntmps9
      go_wp2_with fail
      refine H.out.mono ?_
      rintro e w' ⟨rfl, rfl⟩
      go_wp2
      go_ret
      exact ⟨rfl, K0.out, Only.refl _ _⟩
    | none =>
      rw [hs] at c2
      simp only [Option.isSome_none] at c2 ⊢
      have K1 := Lib.hid (K0.out.drewN 1)
      go_enter Try.func9, Try.ntmps9
      go_wp2_with fail
      refine H.out.mono ?_
      rintro e w' ⟨rfl, rfl⟩
      go_upto_region 3 with fail
      refine wp_region_noPanic ?_
      refine wp_region_held_drew (S := (fun w' => w'.cell? ⟨B, 0, none⟩ = some (.int .i64 (x.now : Int)) ∧ w'.cell? ⟨B, 1, none⟩ = some (.slice (some ⟨P, 0, none⟩) x.pins.length x.pins.length))) (by kernel_rfl) ?_ (fun hHeld => ?_)
      · exact ⟨K1.out.blk.at (o := 0) rfl, K1.out.blk.at (o := 1) rfl⟩
      refine wpAnyH_take (i := 0) (oi := ⟨some 19, _, _, _, _, _⟩) (v := ?_) rfl (by kernel_rfl) (by kernel_rfl) (by kernel_rfl) (fun _ _ _ h => h) (Or.inl ⟨by rfl, ?_⟩) (by assumption) ?_
      rotate_left
      · (intro w hSw; (try dsimp only at hSw); go_simp; try with_reducible rfl)
      try simp only [Act.put, List.setIfInBounds_toArray, List.set_cons_zero, List.set_cons_succ]
      refine wpAnyH_take (i := 1) (oi := ⟨some 20, _, _, _, _, _⟩) (v := ?_) rfl (by kernel_rfl) (by kernel_rfl) (by kernel_rfl) (fun _ _ _ h => h) (Or.inl ⟨by rfl, ?_⟩) (by assumption) ?_
      rotate_left
      · (intro w hSw; (try dsimp only at hSw); go_simp; try with_reducible rfl)
      try simp only [Act.put, List.setIfInBounds_toArray, List.set_cons_zero, List.set_cons_succ]
      refine wpAnyH_take (i := 2) (oi := ⟨some 21, _, _, _, _, _⟩) (v := ?_) rfl (by kernel_rfl) (by kernel_rfl) (by kernel_rfl) (fun _ _ _ h => h) (Or.inl ⟨by rfl, ?_⟩) (by assumption) ?_
      rotate_left
      · (intro w hSw; (try dsimp only at hSw); go_simp; try with_reducible rfl)
      try simp only [Act.put, List.setIfInBounds_toArray, List.set_cons_zero, List.set_cons_succ]
      refine wpAnyH_take (i := 3) (oi := ⟨some 22, _, _, _, _, _⟩) (v := ?_) rfl (by kernel_rfl) (by kernel_rfl) (by kernel_rfl) (fun _ _ _ h => h) (Or.inl ⟨by rfl, ?_⟩) (by assumption) ?_
      rotate_left
      · (intro w hSw; (try dsimp only at hSw); go_simp; try with_reducible rfl)
      try simp only [Act.put, List.setIfInBounds_toArray, List.set_cons_zero, List.set_cons_succ]
      refine wpAnyH_take (i := 4) (oi := ⟨some 23, _, _, _, _, _⟩) (v := ?_) rfl (by kernel_rfl) (by kernel_rfl) (by kernel_rfl) (fun _ _ _ h => h) (Or.inl ⟨by rfl, ?_⟩) (by assumption) ?_
      rotate_left
      · (intro w hSw; (try dsimp only at hSw); go_simp; try with_reducible rfl)
      try simp only [Act.put, List.setIfInBounds_toArray, List.set_cons_zero, List.set_cons_succ]
      refine wpAnyH_take (i := 5) (oi := ⟨some 24, _, _, _, _, _⟩) (v := ?_) rfl (by kernel_rfl) (by kernel_rfl) (by kernel_rfl) (fun _ _ _ h => h) (Or.inl ⟨by rfl, ?_⟩) (by assumption) ?_
      rotate_left
      · (intro w hSw; (try dsimp only at hSw); go_simp; try with_reducible rfl)
      try simp only [Act.put, List.setIfInBounds_toArray, List.set_cons_zero, List.set_cons_succ]
      refine wpAnyH_take (i := 6) (oi := ⟨some 25, _, _, _, _, _⟩) (v := ?_) rfl (by kernel_rfl) (by kernel_rfl) (by kernel_rfl) (fun _ _ _ h => h) (Or.inl ⟨by rfl, ?_⟩) (by assumption) ?_
      rotate_left
      · (intro w hSw; (try dsimp only at hSw); go_simp; try with_reducible rfl)
      try simp only [Act.put, List.setIfInBounds_toArray, List.set_cons_zero, List.set_cons_succ]
      refine wpAnyH_take (i := 7) (oi := ⟨some 26, _, _, _, _, _⟩) (v := ?_) rfl (by kernel_rfl) (by kernel_rfl) (by kernel_rfl) (fun _ _ _ h => h) (Or.inl ⟨by rfl, ?_⟩) (by assumption) ?_
      rotate_left
      · (intro w hSw; (try dsimp only at hSw); go_simp; try with_reducible rfl)
      try simp only [Act.put, List.setIfInBounds_toArray, List.set_cons_zero, List.set_cons_succ]
      refine wpAnyH_take (i := 8) (oi := ⟨some 27, _, _, _, _, _⟩) (v := ?_) rfl (by kernel_rfl) (by kernel_rfl) (by kernel_rfl) (fun _ _ _ h => h) (Or.inl ⟨by rfl, ?_⟩) (by assumption) ?_
      rotate_left
      · (intro w hSw; (try dsimp only at hSw); go_simp; try with_reducible rfl)
      try simp only [Act.put, List.setIfInBounds_toArray, List.set_cons_zero, List.set_cons_succ]
      refine wpAnyH_take (i := 9) (oi := ⟨some 28, _, _, _, _, _⟩) (v := ?_) rfl (by kernel_rfl) (by kernel_rfl) (by kernel_rfl) (fun _ _ _ h => h) (Or.inl ⟨by rfl, ?_⟩) (by assumption) ?_
      rotate_left
      · (intro w hSw; (try dsimp only at hSw); go_simp; try with_reducible rfl)
      try simp only [Act.put, List.setIfInBounds_toArray, List.set_cons_zero, List.set_cons_succ]
      refine wpAnyH_take (i := 10) (oi := ⟨some 29, _, _, _, _, _⟩) (v := ?_) rfl (by kernel_rfl) (by kernel_rfl) (by kernel_rfl) (fun _ _ _ h => h) (Or.inl ⟨by rfl, ?_⟩) (by assumption) ?_
      rotate_left
      · (intro w hSw; (try dsimp only at hSw); go_simp; try with_reducible rfl)
      try simp only [Act.put, List.setIfInBounds_toArray, List.set_cons_zero, List.set_cons_succ]
      refine wpAnyH_ready (rs := [11]) (by kernel_rfl) (by simp) ?_
      refine AllReadyH.cons (o := ⟨none, _, _, _, _, _⟩) rfl (fun K hK => ?_) AllReadyH.nil
      refine step_put rfl 51 (.tmp 29) (.tmp 28) rfl P (i * 2) #[.bool true, .int .i64 (x.now : Int)] (by first | rfl | simp) rfl (blk_lies K1.out.row (by rw [flat_len pinV_len]; simp; omega)) (by kernel_rfl) (by simp [Value.oneCell']) ?_
      obtain ⟨w7, e7⟩ : ∃ w7, (w.drew.setCell ⟨P, i * 2, none⟩ (.bool true)).setCell ⟨P, i * 2 + 1, none⟩ (.int .i64 (x.now : Int)) = w7 := ⟨_, rfl⟩
      simp only [World.setCells]
      rw [e7]
      have E7 := Lib.hid (K1.out.pinned (p := some x.now) hi e7)
      clear e7
      refine hK.out _ _ ?_ (fun hHeldX => ?_)
      · exact ⟨E7.out.1.blk.at (o := 0) rfl, by simpa using E7.out.1.blk.at (o := 1) rfl⟩
      clear hK K hHeld
      rename _ => hHeld
      simp only [Act.put]
      refine wpAnyH_done (by kernel_rfl) ?_ _
      refine NoPanic.normal ?_
      go_wp2
      go_ret
      exact ⟨rfl, E7.out.1, (Only.refl _ _).drewN 1 |>.trans E7.out.2⟩
set_option maxHeartbeats 1000000 in
theorem ep_Unpin {w : World} {lo B P : Nat} {v : Nat → Value} {x : Ep} (h : EpIs w lo B P v x) (t : Int) : Calls Try.prog 11 #[.pointer (some ⟨B, 0, none⟩), .int .i64 t] w fun e w' => e = .returned (.bool (isPin x t)) ∧
    EpIs w' lo B P v ⟨x.now, if isPin x t then x.pins.set t.toNat none else x.pins, x.q⟩ ∧ Only (· = P) w w' := by
  have c1 := h.blk.at (o := 1) rfl
  have H := Lib.hid (ep_Pinned h t)
  have K0 := Lib.hid h
  cases hh : isPin x t with
  | false =>
    rw [hh] at H
    clear h
    go_enter Try.func11, Try.ntmps11
    go_wp2_with fail
    refine H.out.mono ?_
    rintro e w' ⟨rfl, rfl⟩
    go_wp2
    go_ret
    exact ⟨rfl, K0.out, Only.refl _ _⟩
  | true =>
    rw [hh] at H
    obtain ⟨i, rfl, hi⟩ : ∃ i : Nat, t = (i : Int) ∧ i < x.pins.length := ⟨t.toNat, by simp [isPin, hasT] at hh; omega, by simp [isPin, hasT] at hh; omega⟩
    have c2 := (h.pin (List.getElem?_eq_getElem hi)).1
    have c3 := (h.pin (List.getElem?_eq_getElem hi)).2
    have f2 := h.row.frozen (i * 2)
    have f3 := h.row.frozen (i * 2 + 1)
    have E7 := Lib.hid (h.pinned (p := none) hi rfl)
    clear h hh
    go_enter Try.func11, Try.ntmps11
    go_wp2_with fail
    refine H.out.mono ?_
    rintro e w' ⟨rfl, rfl⟩
    go_wp2
    go_ret
    exact ⟨rfl, E7.out.1, E7.out.2⟩

end Go.Proofs.Ytkbappdlijmjlaa
