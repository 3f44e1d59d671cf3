/- Layer 11 (package ring, of ints): Put, Get. -/
import Derived.Test.YtmonfkiakjaimaaRingJ11
namespace Go.Proofs.Ytmonfkiakjaimaa
open Go.RowKit

section
variable {w : World} {B S : Nat} {x : Rg}
/-- A slot's two cells written. -/
theorem RgIs.write (h : RgIs w B S x) {i : Nat} (hi : i < x.n) (a b : Int) :
    Blk 44 ((w.setCell ⟨S, i * 2, none⟩ (.int .i64 a)).setCell ⟨S, i * 2 + 1, none⟩ (.int .i64 b)) B [.slice (some ⟨S, 0, none⟩) x.n x.n, .int .i64 (x.p : Int), .int .i64 (x.g : Int), .int .i64 (x.d : Int)] ∧
    Blk 46 ((w.setCell ⟨S, i * 2, none⟩ (.int .i64 a)).setCell ⟨S, i * 2 + 1, none⟩ (.int .i64 b)) S (((slotsZ x).set i (a, b)).flatMap slV) ∧ Only (RgBlk B S) w ((w.setCell ⟨S, i * 2, none⟩ (.int .i64 a)).setCell ⟨S, i * 2 + 1, none⟩ (.int .i64 b)) := by
  have ho : Only (· = S) w ((w.setCell ⟨S, i * 2, none⟩ (.int .i64 a)).setCell ⟨S, i * 2 + 1, none⟩ (.int .i64 b)) := (only_at _ _ _ _).trans (only_at _ _ _ _)
  refine ⟨h.blk.only ho (fun e => h.apart e.symm), ?_, ho.mono (fun k _ e => .inr e)⟩
  have := (h.row.set (i * 2) (.int .i64 a)).set (i * 2 + 1) (.int .i64 b)
  rw [← sl_turn (by rw [slots_len]; exact hi) (a, b)]
  exact this
theorem rg_Put_no (h : RgIs w B S x) (hg : x.g ≤ 100000) (hd : x.d ≤ 100000) (hl : x.L.length = x.n) (v : Int) : Calls Try.prog 11 #[.pointer (some ⟨B, 0, none⟩), .int .i64 v] w fun e w' =>
    e = .returned (.bool false) ∧ RgIs w' B S (dropZ x) ∧ Only (RgBlk B S) w w' := by
  have h1 := h.ok.one
  have h2 := h.ok.most
  have hp : x.p ≤ 200000 := by unfold Rg.p; omega
  have C := Lib.hid (rg_Cap h)
  have A := Lib.hid (rg_at h x.p (by omega))
  have E := Lib.hid (fun W => (rg_empty x.p (by omega) W).mono fun e w' h => And.intro h.1 h.2.symm)
  have hi : x.p % x.n < x.n := Nat.mod_lt _ (by omega)
  obtain ⟨v0, L0, hL⟩ : ∃ v0 L0, x.L = v0 :: L0 := by
    rcases hx : x.L with _ | ⟨a, b⟩
    · rw [hx] at hl; simp at hl; omega
    · exact ⟨_, _, rfl⟩
  obtain ⟨_, c2, _⟩ := h.at hi
  have hs : slotZ x (x.p % x.n) = (v0, 2 * (x.g : Int) + 1) := by rw [p_full hl, slot_g h.ok hL]
  rw [hs] at c2
  replace c2 : w.cell? _ = some (.int .i64 (2 * (x.g : Int) + 1)) := c2
  have hne : ((2 * (x.g : Int) + 1) != 2 * (x.p : Int)) = true := by simp; omega
  have cp := h.blk.at (o := 1) rfl
  have cd := h.blk.at (o := 3) rfl
  have fd := h.blk.frozen 3
  have Z : Hid (∀ n, RgIs ((w.drewN n).setCell ⟨B, 3, none⟩ (.int .i64 ((x.d : Int) + 1))) B S (dropZ x) ∧ Only (RgBlk B S) w ((w.drewN n).setCell ⟨B, 3, none⟩ (.int .i64 ((x.d : Int) + 1)))) := Lib.hid fun n => by
    have hn := h.drewN n
    have ho := only_at (w.drewN n) B 3 (.int .i64 ((x.d : Int) + 1))
    exact ⟨⟨hn.blk.set 3 _, hn.row.only ho hn.apart, h.ok.drop⟩, ((Only.refl _ w).drewN n).trans (ho.mono (fun k _ e => .inl e))⟩
  have hn0 : ¬ x.n = 0 := by omega
  generalize x.p % x.n = i at *
  generalize x.p = p at *
  generalize x.g = g at *
  have hd' : (x.d : Int) ≤ 100000 := by omega
  generalize x.d = d at *
  clear h hs hL hl hi
  go_enter Try.func11, Try.ntmps11
  go_wp2_with fail
  refine C.out.mono ?_
  rintro e w' ⟨rfl, rfl⟩
  go_wp2_with fail
  refine A.out.mono ?_
  rintro e w' ⟨rfl, n1, rfl⟩
  go_upto_region 4 with fail
  go_quiet (first | (go_at_call 21; exact (E.out _).mono fun e w' h => ⟨h.1, _, h.2⟩))
  rw [World.drewN_drewN]
  go_wp2
  go_ret
  exact ⟨rfl, Z.out _⟩
set_option maxHeartbeats 1000000 in
theorem rg_Put_yes (h : RgIs w B S x) (hg : x.g ≤ 100000) (hl : x.L.length < x.n) (v : Int) : Calls Try.prog 11 #[.pointer (some ⟨B, 0, none⟩), .int .i64 v] w fun e w' =>
    e = .returned (.bool true) ∧ RgIs w' B S (putZ x v) ∧ Only (RgBlk B S) w w' := by
  have h1 := h.ok.one
  have h2 := h.ok.most
  have hp : x.p ≤ 200000 := by unfold Rg.p; omega
  have C := Lib.hid (rg_Cap h)
  have A := Lib.hid (rg_at h x.p (by omega))
  have E := Lib.hid (fun W => (rg_empty x.p (by omega) W).mono fun e w' h => And.intro h.1 h.2.symm)
  have F := Lib.hid (fun W => rg_filled x.p (by omega) W)
  have hi : x.p % x.n < x.n := Nat.mod_lt _ (by omega)
  obtain ⟨c1, c2, f, th⟩ := h.at hi
  rw [slot_p h.ok hl] at c1 c2
  replace c1 : w.cell? _ = some (.int .i64 0) := c1
  replace c2 : w.cell? _ = some (.int .i64 (2 * (x.p : Int))) := c2
  have f1 := f (x.p % x.n * 2)
  have f2 := f (x.p % x.n * 2 + 1)
  have cp := h.blk.at (o := 1) rfl
  have Z1 := Lib.hid fun n => (h.drewN n).write hi v (2 * (x.p : Int) + 1)
  have Z : Hid (∀ w7, Blk 44 w7 B [.slice (some ⟨S, 0, none⟩) x.n x.n, .int .i64 (x.p : Int), .int .i64 (x.g : Int), .int .i64 (x.d : Int)] → Blk 46 w7 S (((slotsZ x).set (x.p % x.n) (v, 2 * (x.p : Int) + 1)).flatMap slV) →
      RgIs (w7.setCell ⟨B, 1, none⟩ (.int .i64 ((x.p : Int) + 1))) B S (putZ x v) ∧ Only (RgBlk B S) w7 (w7.setCell ⟨B, 1, none⟩ (.int .i64 ((x.p : Int) + 1)))) := Lib.hid fun w7 hb hr => by
    have ho := only_at w7 B 1 (.int .i64 ((x.p : Int) + 1))
    refine ⟨⟨?_, ?_, h.ok.put hl v⟩, ho.mono (fun k _ e => .inl e)⟩
    · have := hb.set 1 (.int .i64 ((x.p : Int) + 1))
      rw [show (putZ x v).p = x.p + 1 by simp [Rg.p, putZ]; omega]
      exact this
    · rw [slots_put h.ok hl]
      exact hr.only ho h.apart
  have hn0 : ¬ x.n = 0 := by omega
  generalize hM : (slotsZ x).set (x.p % x.n) (v, 2 * (x.p : Int) + 1) = M at *
  generalize hii : x.p % x.n = i at *
  generalize x.p = p at *
  have hp2 : (p : Int) ≤ 200000 := by omega
  clear h hl hi hM hii hg f th
  go_enter Try.func11, Try.ntmps11
  go_wp2_with fail
  refine C.out.mono ?_
  rintro e w' ⟨rfl, rfl⟩
  go_wp2_with fail
  refine A.out.mono ?_
  rintro e w' ⟨rfl, n1, rfl⟩
  go_upto_region 4 with fail
  go_quiet (first | (go_at_call 21; exact (E.out _).mono fun e w' h => ⟨h.1, _, h.2⟩))
  rw [World.drewN_drewN]
  go_upto_region 8 with (go_at_call 23; refine (F.out _).mono ?_; rintro e w' ⟨rfl, rfl⟩)
  obtain ⟨hb7, hr7, o7⟩ := Z1.out (n1 + nq)
  generalize ((w.drewN (n1 + nq)).setCell ⟨S, i * 2, none⟩ (.int .i64 v)).setCell ⟨S, i * 2 + 1, none⟩ (.int .i64 (2 * (p : Int) + 1)) = w7 at *
  obtain ⟨z1, z2⟩ := Z.out w7 hb7 hr7
  have ZZ := Lib.hid (And.intro z1 ((((Only.refl (RgBlk B S) w).drewN _).trans o7).trans z2))
  have c7 := hb7.at (o := 1) rfl
  have f7 := hb7.frozen 1
  clear z1 z2 Z Z1 hr7 o7 hb7 c1 c2 cp f1 f2
  go_wp2
  go_ret
  exact ⟨rfl, ZZ.out⟩
theorem rg_Get_no (h : RgIs w B S x) (hg : x.g ≤ 100000) (hL : x.L = []) : Calls Try.prog 13 #[.pointer (some ⟨B, 0, none⟩)] w fun e w' =>
    e = .returned (.tuple #[.int .i64 0, .bool false]) ∧ ∃ n, w' = w.drewN n := by
  have h1 := h.ok.one
  have h2 := h.ok.most
  have C := Lib.hid (rg_Cap h)
  have A := Lib.hid (rg_at h x.g (by omega))
  have F := Lib.hid (fun W => (rg_filled x.g (by omega) W).mono fun e w' h => And.intro h.1 h.2.symm)
  have hi : x.g % x.n < x.n := Nat.mod_lt _ (by omega)
  obtain ⟨_, c2, _⟩ := h.at hi
  rw [slot_g0 h.ok hL] at c2
  replace c2 : w.cell? _ = some (.int .i64 (2 * (x.g : Int))) := c2
  have cp := h.blk.at (o := 2) rfl
  have hne : ((2 * (x.g : Int)) != 2 * (x.g : Int) + 1) = true := by simp; omega
  have hn0 : ¬ x.n = 0 := by omega
  generalize hii : x.g % x.n = i at *
  generalize x.g = g at *
  have hg2 : (g : Int) ≤ 100000 := by omega
  clear h hL hi hii hg
  go_enter Try.func13, Try.ntmps13
  go_wp2_with fail
  refine C.out.mono ?_
  rintro e w' ⟨rfl, rfl⟩
  go_wp2_with fail
  refine A.out.mono ?_
  rintro e w' ⟨rfl, n1, rfl⟩
  go_upto_region 5 with fail
  go_quiet (first | (go_at_call 23; exact (F.out _).mono fun e w' h => ⟨h.1, _, h.2⟩))
  rw [World.drewN_drewN]
  go_wp2
  go_ret2
  exact ⟨rfl, _, rfl⟩
set_option maxHeartbeats 1000000 in
theorem rg_Get_yes (h : RgIs w B S x) (hg : x.g ≤ 100000) {v : Int} {L : List Int} (hL : x.L = v :: L) : Calls Try.prog 13 #[.pointer (some ⟨B, 0, none⟩)] w fun e w' =>
    e = .returned (.tuple #[.int .i64 v, .bool true]) ∧ RgIs w' B S (gotZ x) ∧ Only (RgBlk B S) w w' := by
  have h1 := h.ok.one
  have h2 := h.ok.most
  have C := Lib.hid fun n => rg_Cap (h.drewN n)
  have A := Lib.hid (rg_at h x.g (by omega))
  have E := Lib.hid (fun W => rg_empty (x.g + x.n) (by omega) W)
  have F := Lib.hid (fun W => (rg_filled x.g (by omega) W).mono fun e w' h => And.intro h.1 h.2.symm)
  have hi : x.g % x.n < x.n := Nat.mod_lt _ (by omega)
  obtain ⟨c1, c2, f, th⟩ := h.at hi
  rw [slot_g h.ok hL] at c1 c2
  replace c1 : w.cell? _ = some (.int .i64 v) := c1
  replace c2 : w.cell? _ = some (.int .i64 (2 * (x.g : Int) + 1)) := c2
  have f1 := f (x.g % x.n * 2)
  have f2 := f (x.g % x.n * 2 + 1)
  have cp := h.blk.at (o := 2) rfl
  have Z1 := Lib.hid fun n => (h.drewN n).write hi 0 (2 * ((x.g : Int) + (x.n : Int)))
  have Z : Hid (∀ w7, Blk 44 w7 B [.slice (some ⟨S, 0, none⟩) x.n x.n, .int .i64 (x.p : Int), .int .i64 (x.g : Int), .int .i64 (x.d : Int)] → Blk 46 w7 S (((slotsZ x).set (x.g % x.n) (0, 2 * ((x.g : Int) + (x.n : Int)))).flatMap slV) →
      RgIs (w7.setCell ⟨B, 2, none⟩ (.int .i64 ((x.g : Int) + 1))) B S (gotZ x) ∧ Only (RgBlk B S) w7 (w7.setCell ⟨B, 2, none⟩ (.int .i64 ((x.g : Int) + 1)))) := Lib.hid fun w7 hb hr => by
    have ho := only_at w7 B 2 (.int .i64 ((x.g : Int) + 1))
    refine ⟨⟨?_, ?_, h.ok.got⟩, ho.mono (fun k _ e => .inl e)⟩
    · have := hb.set 2 (.int .i64 ((x.g : Int) + 1))
      rw [show (gotZ x).p = x.p by simp [Rg.p, gotZ, hL]; omega]
      exact this
    · rw [slots_got h.ok hL]
      exact hr.only ho h.apart
  have hn0 : ¬ x.n = 0 := by omega
  generalize hM : (slotsZ x).set (x.g % x.n) (0, 2 * ((x.g : Int) + (x.n : Int))) = M at *
  generalize hii : x.g % x.n = i at *
  generalize x.g = g at *
  have hg2 : (g : Int) ≤ 100000 := by omega
  have hn2 : (x.n : Int) ≤ 1024 := by omega
  generalize x.n = n at *
  have hw : IntKind.i64.wrap ((g : Int) + (n : Int)) = (g : Int) + (n : Int) := IntWalk.i64_in _ (by omega)
  have EN : Hid (∀ W, Calls Try.prog 21 #[.int .i64 ((g : Int) + (n : Int))] W fun e w' => e = .returned (.int .i64 (2 * ((g : Int) + (n : Int)))) ∧ W = w') := Lib.hid (by have := E.out; simpa using this)
  clear h hL hi hM hii hg f th E
  go_enter Try.func13, Try.ntmps13
  go_wp2_with fail
  refine (C.out 0).mono ?_
  rintro e w' ⟨rfl, rfl⟩
  go_wp2_with fail
  refine A.out.mono ?_
  rintro e w' ⟨rfl, n1, rfl⟩
  go_upto_region 5 with fail
  go_quiet (first | (go_at_call 23; exact (F.out _).mono fun e w' h => ⟨h.1, _, h.2⟩))
  rw [World.drewN_drewN]
  go_upto_region 8 with fail
  go_region_with (first
    | (go_at_call 10; refine (C.out (n1 + nq + 1)).mono ?_; rintro e w9 ⟨rfl, rfl⟩)
    | (go_at_call 21; refine (EN.out _).mono ?_; rintro e w9 ⟨rfl, rfl⟩))
  all_goals
    obtain ⟨hb7, hr7, o7⟩ := Z1.out (n1 + nq + 1)
    generalize ((w.drewN (n1 + nq + 1)).setCell ⟨S, i * 2, none⟩ (.int .i64 0)).setCell ⟨S, i * 2 + 1, none⟩ (.int .i64 (2 * ((g : Int) + (n : Int)))) = w7 at *
    obtain ⟨z1, z2⟩ := Z.out w7 hb7 hr7
    have ZZ := Lib.hid (And.intro z1 ((((Only.refl (RgBlk B S) w).drewN _).trans o7).trans z2))
    have c7 := hb7.at (o := 2) rfl
    have f7 := hb7.frozen 2
    clear z1 z2 Z Z1 hr7 o7 hb7 c1 c2 cp f1 f2
    go_wp2
    go_ret2
    exact ⟨rfl, ZZ.out⟩
end

end Go.Proofs.Ytmonfkiakjaimaa
