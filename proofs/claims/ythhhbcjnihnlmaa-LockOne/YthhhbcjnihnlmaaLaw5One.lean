/- LockOne's walk. -/
import Derived.Test.YthhhbcjnihnlmaaLaw5
import Derived.Test.YthhhbcjnihnlmaaLists
namespace Go.Proofs.Ythhhbcjnihnlmaa
open Go.RowKit

/-- Where the loop stands. -/
structure OneStand (w1 wr : World) (B k : Nat) (own acc cnt : Int) (l : List Value) : Prop where
  at_ : LockAt 47 wr B 0 l own acc cnt
  a0 : 0 ≤ acc
  a1 : acc ≤ 2 * k
  c0 : 0 ≤ cnt
  c1 : cnt ≤ k
  below : Below B w1 wr

set_option maxRecDepth 100000 in
set_option maxHeartbeats 1000000 in
theorem one_any (a : Option Addr) (c : Nat) (L : List Int) (w : World) (hs : ListIn numV w a L) :
    Calls Try.prog 4 #[.slice a L.length c] w fun e w' => e = .returned (.bool true) ∧ Below w.heap.size w w' := by
  have HC := Lib.hid hs.at
  clear hs
  go_enter Try.func4, Try.ntmps4
  go_wp2_with fail
  refine (awake5 w).mono ?_
  rintro e w1 ⟨rfl, hb⟩
  have B1 := Lib.hid hb
  have hz1 := hb.size
  have S0 : OneStand w1 (w1.alloc (.cells #[.int .i64 0, .int .i64 0, .int .i64 0] 47)) w1.heap.size 0 0 0 0 _ := ⟨zeroLock w1, by omega, by omega, by omega, by omega, (Below.refl _ _).alloc (Nat.le_refl _) _⟩
  clear hb
  go_wp2_with fail
  go_loopg [4, 5, 6, 7] L.length (fun g i _ _ _ wr => ∃ (k : Nat) (own acc cnt : Int) (l : List Value), k + g = L.length ∧ k ≤ 300 ∧ i = .int .i64 k ∧ OneStand w1 wr w1.heap.size k own acc cnt l)
  case atStart => exact ⟨0, 0, 0, 0, _, by omega, by omega, rfl, S0⟩
  case round =>
    obtain ⟨k, own, acc, cnt, l, hk, hk3, rfl, st⟩ := hrel
    have ST := Lib.hid st
    have HK := Lib.hid hk
    have hkL : k ≤ L.length := by omega
    clear st S0 hk
    by_cases hlt : k < L.length ∧ k < 300
    · obtain ⟨hlt, hlt3⟩ := hlt
      have hd1 : decide (k < L.length) = true := by simpa using hlt
      have hd2 : decide (k < 300) = true := by simpa using hlt3
      obtain ⟨b, off, rfl, hb, hx⟩ := HC.out k hlt
      have hx := (ST.out.below.cell (p := ⟨b, off + k, none⟩) (by show b < w1.heap.size; omega)).trans ((B1.out.cell (p := ⟨b, off + k, none⟩) hb).trans hx)
      generalize L[k] = x at hx
      have hj : k * 7 % L.length < L.length := Nat.mod_lt _ (by omega)
      obtain ⟨b2, off2, e2, hb2, hy⟩ := HC.out (k * 7 % L.length) hj
      cases e2
      have hy := (ST.out.below.cell (p := ⟨b, off + k * 7 % L.length, none⟩) (by show b < w1.heap.size; omega)).trans ((B1.out.cell (p := ⟨b, off + k * 7 % L.length, none⟩) hb).trans hy)
      generalize L[k * 7 % L.length] = y at hy
      have hbw : b < w1.heap.size := by omega
      have hbr : b < wr.heap.size := by have := ST.out.below.size; omega
      have ha0 := ST.out.a0
      have ha1 := ST.out.a1
      have hc0 := ST.out.c0
      have hc1 := ST.out.c1
      have hr0 : 0 ≤ (k : Int) * 7 % (L.length : Int) := Int.emod_nonneg _ (by omega)
      have hr1 : (k : Int) * 7 % (L.length : Int) < (L.length : Int) := Int.emod_lt_of_pos _ (by omega)
      by_cases hw : own = 0
      · subst hw
        by_cases hv : 1 ≤ x
        · have F := Lib.hid (show tryB 0 x = true ∧ tryO 0 x = x ∧ tryC 0 x cnt = cnt + 1 by simp [tryB, tryO, tryC, hv])
          have hv1 : decide (1 ≤ x) = true := by simpa using hv
          go_wp2_with fail
          refine (lock_Owner ST.out.at_).mono ?_
          rintro e w' ⟨rfl, rfl⟩
          go_wp2_with fail
          refine (lock_Try x ST.out.at_ (by omega) (by omega) (by omega) (by omega)).mono ?_
          rintro e w3 ⟨he, a3, ha3, ha3', ⟨l3, h3, _⟩, ho3⟩
          rw [F.out.1] at he
          subst he
          rw [F.out.2.1, F.out.2.2] at h3
          have hbk := ho3.block b hbr (by omega)
          have hx3 := (World.cell?_of_block (w := wr) (a := ⟨b, off + k, none⟩) hbk).trans hx
          have hy3 := (World.cell?_of_block (w := wr) (a := ⟨b, off + k * 7 % L.length, none⟩) hbk).trans hy
          have H3 := Lib.hid h3
          have HX := Lib.hid hx
          have HY := Lib.hid hy
          have B3 := Lib.hid (Only.below_step ST.out.below.size ST.out.below ho3 (fun i hi e => by omega))
          clear h3 ho3 hbk hx hy
          go_wp2_with fail
          go_quiet ((go_at_call 16; exact lock_Owner_q H3.out _))
          go_wp2_with fail
          by_cases hf : x = y ∧ 1 ≤ y
          · have E := Lib.hid (show freeE (x) y = 0 ∧ freeO (x) y = 0 by simp [freeE, freeO, hf])
            refine (lock_Free y (H3.out.drewN nq) (by omega) (by omega)).mono ?_
            rintro e w4 ⟨he, a4, ha4, ha4', ⟨l4, h4, _⟩, ho4⟩
            rw [E.out.1] at he
            subst he
            rw [E.out.2] at h4
            have H4 := Lib.hid h4
            have S4 := Lib.hid (show OneStand w1 w4 w1.heap.size (k + 1) (0) a4 (cnt + 1) l4 from ⟨h4, by omega, by omega, by omega, by omega, Only.below_step (by have := B3.out.size; exact this) (below_draws B3.out nq) ho4 (fun i hi e => by omega)⟩)
            clear h4 ho4 hf
            go_wp2_with fail
            refine (lock_Owner H4.out).mono ?_
            rintro e w' ⟨rfl, rfl⟩
            go_wp2
            have hgk := HK.out
            go_roundg (gk - 1)
            case rel => exact ⟨k + 1, _, _, _, _, by omega, by omega, by go_num, S4.out⟩
            case measure => omega
          · have E := Lib.hid (show freeE (x) y = 9 ∧ freeO (x) y = x by simp [freeE, freeO, hf])
            refine (lock_Free y (H3.out.drewN nq) (by omega) (by omega)).mono ?_
            rintro e w4 ⟨he, a4, ha4, ha4', ⟨l4, h4, _⟩, ho4⟩
            rw [E.out.1] at he
            subst he
            rw [E.out.2] at h4
            have H4 := Lib.hid h4
            have S4 := Lib.hid (show OneStand w1 w4 w1.heap.size (k + 1) (x) a4 (cnt + 1) l4 from ⟨h4, by omega, by omega, by omega, by omega, Only.below_step (by have := B3.out.size; exact this) (below_draws B3.out nq) ho4 (fun i hi e => by omega)⟩)
            clear h4 ho4 hf
            go_wp2_with fail
            refine (lock_Owner H4.out).mono ?_
            rintro e w' ⟨rfl, rfl⟩
            go_wp2
            have hgk := HK.out
            go_roundg (gk - 1)
            case rel => exact ⟨k + 1, _, _, _, _, by omega, by omega, by go_num, S4.out⟩
            case measure => omega
        · have F := Lib.hid (show tryB 0 x = false ∧ tryO 0 x = 0 ∧ tryC 0 x cnt = cnt by simp [tryB, tryO, tryC, hv])
          have hv1 : decide (1 ≤ x) = false := by simpa using hv
          go_wp2_with fail
          refine (lock_Owner ST.out.at_).mono ?_
          rintro e w' ⟨rfl, rfl⟩
          go_wp2_with fail
          refine (lock_Try x ST.out.at_ (by omega) (by omega) (by omega) (by omega)).mono ?_
          rintro e w3 ⟨he, a3, ha3, ha3', ⟨l3, h3, _⟩, ho3⟩
          rw [F.out.1] at he
          subst he
          rw [F.out.2.1, F.out.2.2] at h3
          have hbk := ho3.block b hbr (by omega)
          have hx3 := (World.cell?_of_block (w := wr) (a := ⟨b, off + k, none⟩) hbk).trans hx
          have hy3 := (World.cell?_of_block (w := wr) (a := ⟨b, off + k * 7 % L.length, none⟩) hbk).trans hy
          have H3 := Lib.hid h3
          have HX := Lib.hid hx
          have HY := Lib.hid hy
          have B3 := Lib.hid (Only.below_step ST.out.below.size ST.out.below ho3 (fun i hi e => by omega))
          clear h3 ho3 hbk hx hy
          go_wp2_with fail
          go_quiet ((go_at_call 16; exact lock_Owner_q H3.out _))
          go_wp2_with fail
          by_cases hf : 0 = y ∧ 1 ≤ y
          · exact absurd hf (by omega)
          · have E := Lib.hid (show freeE (0) y = 9 ∧ freeO (0) y = 0 by simp [freeE, freeO, hf])
            refine (lock_Free y (H3.out.drewN nq) (by omega) (by omega)).mono ?_
            rintro e w4 ⟨he, a4, ha4, ha4', ⟨l4, h4, _⟩, ho4⟩
            rw [E.out.1] at he
            subst he
            rw [E.out.2] at h4
            have H4 := Lib.hid h4
            have S4 := Lib.hid (show OneStand w1 w4 w1.heap.size (k + 1) (0) a4 (cnt) l4 from ⟨h4, by omega, by omega, by omega, by omega, Only.below_step (by have := B3.out.size; exact this) (below_draws B3.out nq) ho4 (fun i hi e => by omega)⟩)
            clear h4 ho4 hf
            go_wp2_with fail
            refine (lock_Owner H4.out).mono ?_
            rintro e w' ⟨rfl, rfl⟩
            go_wp2
            have hgk := HK.out
            go_roundg (gk - 1)
            case rel => exact ⟨k + 1, _, _, _, _, by omega, by omega, by go_num, S4.out⟩
            case measure => omega
      · have F := Lib.hid (show tryB own x = false ∧ tryO own x = own ∧ tryC own x cnt = cnt by simp [tryB, tryO, tryC, hw])
        have hw1 := neI _ _ hw
        have hw2 := bneI _ _ hw
        clear hw
        go_wp2_with fail
        refine (lock_Owner ST.out.at_).mono ?_
        rintro e w' ⟨rfl, rfl⟩
        go_wp2_with fail
        refine (lock_Try x ST.out.at_ (by omega) (by omega) (by omega) (by omega)).mono ?_
        rintro e w3 ⟨he, a3, ha3, ha3', ⟨l3, h3, _⟩, ho3⟩
        rw [F.out.1] at he
        subst he
        rw [F.out.2.1, F.out.2.2] at h3
        have hbk := ho3.block b hbr (by omega)
        have hx3 := (World.cell?_of_block (w := wr) (a := ⟨b, off + k, none⟩) hbk).trans hx
        have hy3 := (World.cell?_of_block (w := wr) (a := ⟨b, off + k * 7 % L.length, none⟩) hbk).trans hy
        have H3 := Lib.hid h3
        have HX := Lib.hid hx
        have HY := Lib.hid hy
        have B3 := Lib.hid (Only.below_step ST.out.below.size ST.out.below ho3 (fun i hi e => by omega))
        clear h3 ho3 hbk hx hy
        go_wp2_with fail
        go_quiet ((go_at_call 16; exact lock_Owner_q H3.out _))
        go_wp2_with fail
        by_cases hf : own = y ∧ 1 ≤ y
        · have E := Lib.hid (show freeE (own) y = 0 ∧ freeO (own) y = 0 by simp [freeE, freeO, hf])
          refine (lock_Free y (H3.out.drewN nq) (by omega) (by omega)).mono ?_
          rintro e w4 ⟨he, a4, ha4, ha4', ⟨l4, h4, _⟩, ho4⟩
          rw [E.out.1] at he
          subst he
          rw [E.out.2] at h4
          have H4 := Lib.hid h4
          have S4 := Lib.hid (show OneStand w1 w4 w1.heap.size (k + 1) (0) a4 (cnt) l4 from ⟨h4, by omega, by omega, by omega, by omega, Only.below_step (by have := B3.out.size; exact this) (below_draws B3.out nq) ho4 (fun i hi e => by omega)⟩)
          clear h4 ho4 hf
          go_wp2_with fail
          refine (lock_Owner H4.out).mono ?_
          rintro e w' ⟨rfl, rfl⟩
          go_wp2
          have hgk := HK.out
          go_roundg (gk - 1)
          case rel => exact ⟨k + 1, _, _, _, _, by omega, by omega, by go_num, S4.out⟩
          case measure => omega
        · have E := Lib.hid (show freeE (own) y = 9 ∧ freeO (own) y = own by simp [freeE, freeO, hf])
          refine (lock_Free y (H3.out.drewN nq) (by omega) (by omega)).mono ?_
          rintro e w4 ⟨he, a4, ha4, ha4', ⟨l4, h4, _⟩, ho4⟩
          rw [E.out.1] at he
          subst he
          rw [E.out.2] at h4
          have H4 := Lib.hid h4
          have S4 := Lib.hid (show OneStand w1 w4 w1.heap.size (k + 1) (own) a4 (cnt) l4 from ⟨h4, by omega, by omega, by omega, by omega, Only.below_step (by have := B3.out.size; exact this) (below_draws B3.out nq) ho4 (fun i hi e => by omega)⟩)
          clear h4 ho4 hf
          go_wp2_with fail
          refine (lock_Owner H4.out).mono ?_
          rintro e w' ⟨rfl, rfl⟩
          go_wp2
          have hgk := HK.out
          go_roundg (gk - 1)
          case rel => exact ⟨k + 1, _, _, _, _, by omega, by omega, by go_num, S4.out⟩
          case measure => omega
    · have hd : (decide (k < L.length) && decide (k < 300)) = false := by simp; omega
      have hz := ST.out.below.size
      by_cases hlt1 : k < L.length
      · have h3 : ¬ k < 300 := by omega
        have hd1 : decide (k < L.length) = true := by simpa using hlt1
        have hd2 : decide (k < 300) = false := by simpa using h3
        go_wp2
        go_ret
        exact ⟨rfl, B1.out.trans (ST.out.below.mono hz1)⟩
      · have hd1 : decide (k < L.length) = false := by simpa using hlt1
        go_wp2
        go_ret
        exact ⟨rfl, B1.out.trans (ST.out.below.mono hz1)⟩

end Go.Proofs.Ythhhbcjnihnlmaa
