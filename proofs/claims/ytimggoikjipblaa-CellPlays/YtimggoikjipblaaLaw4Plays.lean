/- CellPlays' walk. -/
import Derived.Test.YtimggoikjipblaaLaw4
import Derived.Test.YtimggoikjipblaaBase
import Derived.Deep.RegionHeld3
namespace Go.Proofs.Ytimggoikjipblaa
open Go.RowKit

/-- An access as it came in. -/
abbrev encA (p : Int × Int × Int) : List Value := [.int .i64 p.1, .int .i64 p.2.1, .int .i64 p.2.2]
theorem quiet_left {P : Program} {f : FuncId} {args : Array Value} {w : World} {n : Nat} {v : Value} (h : Calls P f args (w.drewN n) fun e w' => e = .returned v ∧ w.drewN n = w') : Calls P f args (w.drewN n) fun e w' => e = .returned v ∧ ∃ m, w' = w.drewN m :=
  h.mono fun _ _ h => ⟨h.1, n, h.2.symm⟩
/-- Where the loop stands: both cells. -/
structure CStand (w1 wr : World) (B C : Nat) (v n : Int) : Prop where
  c : CellIs 45 wr B (.int .i64 v) n
  x : CellIs 28 wr C (.int .i64 v) n
  below : Below w1.heap.size w1 wr
  apart : B ≠ C
  hB : w1.heap.size ≤ B
  hC : w1.heap.size ≤ C

/-- Behind the document's access. -/
structure Did4 (w1 w3 w4 : World) (B C : Nat) (v n k old x : Int) : Prop where
  x : CellIs 28 w4 C (.int .i64 (accV k old x v)) (n + 1)
  only : Only (· = C) w3 w4

set_option maxRecDepth 100000 in
set_option maxHeartbeats 1000000 in
theorem plays_any (first : Int) (a : Option Addr) (cap : Nat) (L : List (Int × Int × Int)) (w : World) (ht : RecsIn 3 encA w a L) :
    Calls Try.prog 3 #[.int .i64 first, .slice a L.length cap] w fun e w' => e = .returned (.bool true) ∧ Below w.heap.size w w' := by
  have T := Lib.hid ht
  clear ht
  by_cases hbig : 300 < L.length
  · go_enter Try.func3, Try.ntmps3
    go_wp2_with fail
    refine (awake4 w).mono ?_
    rintro e w1 ⟨rfl, hb⟩
    have B1 := Lib.hid hb
    clear hb
    go_wp2
    go_ret
    exact ⟨rfl, B1.out⟩
  have hd : decide (300 < L.length) = false := by simpa using hbig
  go_enter Try.func3, Try.ntmps3
  go_wp2_with fail
  refine (awake4 w).mono ?_
  rintro e w1 ⟨rfl, hb⟩
  have B1 := Lib.hid hb
  clear hb
  go_wp2_with fail
  refine (new_int first w1).mono ?_
  rintro e w2 ⟨rfl, hc, hz, hb⟩
  have S2 : CStand w1 (w2.alloc (.cells #[.int .i64 first, .int .i64 0] 28)) w1.heap.size w2.heap.size first 0 :=
    ⟨hc.only ((Only.refl (fun _ => False) _).alloc _) (fun h => h), CellIs.new, hb.alloc (by omega) _, by omega, Nat.le_refl _, by omega⟩
  have T1 := Lib.hid (T.out.below B1.out)
  have B2 := Lib.hid B1.out
  clear hc hz hb T B1
  go_wp2_with fail
  go_loopg [7, 8, 9, 10, 11] L.length (fun g i _ _ _ _ wr => ∃ (k : Nat) (v : Int), k + g = L.length ∧ i = .int .i64 k ∧ CStand w1 wr w1.heap.size w2.heap.size v k)
  case atStart => exact ⟨0, first, by omega, rfl, S2⟩
  case round =>
    obtain ⟨k, v, hk, rfl, st⟩ := hrel
    have ST := Lib.hid st
    have HK := Lib.hid hk
    have hkL : k ≤ L.length := by omega
    clear st S2 hk
    by_cases hlt : k < L.length
    · obtain ⟨b, off, rfl, hb, hx⟩ := (T1.out.below ST.out.below).at k hlt
      generalize L[k] = p at hx
      obtain ⟨kd, old, x⟩ := p
      have x0 : wr.cell? ⟨b, off + k * 3, none⟩ = some (.int .i64 kd) := hx 0 _ rfl
      have x1 : wr.cell? ⟨b, off + k * 3 + 1, none⟩ = some (.int .i64 old) := hx 1 _ rfl
      have x2 : wr.cell? ⟨b, off + k * 3 + 2, none⟩ = some (.int .i64 x) := hx 2 _ rfl
      have hbw : b < w1.heap.size := by
        obtain ⟨b', off', e, hb', _⟩ := T1.out.at k hlt
        cases e
        exact hb'
      clear hx
      go_wp2_with fail
      refine (do_cell w1.heap.size kd old x v k wr ST.out.c (by omega) (by omega)).mono ?_
      rintro e w3 ⟨rfl, hc3, ho3⟩
      have hbk := ho3.block b hb (by omega)
      have y0 : w3.cell? ⟨b, off + k * 3, none⟩ = some (.int .i64 kd) := (World.cell?_of_block (w := wr) hbk).trans x0
      have y1 : w3.cell? ⟨b, off + k * 3 + 1, none⟩ = some (.int .i64 old) := (World.cell?_of_block (w := wr) hbk).trans x1
      have y2 : w3.cell? ⟨b, off + k * 3 + 2, none⟩ = some (.int .i64 x) := (World.cell?_of_block (w := wr) hbk).trans x2
      have hb3 : b < w3.heap.size := by have := ho3.size; omega
      have hz3 : w1.heap.size ≤ w3.heap.size := by have := ho3.size; have := ST.out.below.size; omega
      have B3 := Lib.hid (Only.below_step (by have := ST.out.below.size; omega) ST.out.below ho3 (fun i hi e => by omega))
      have X3 := Lib.hid (ST.out.x.only ho3 (fun e => ST.out.apart e.symm))
      have C3 := Lib.hid hc3
      have AP := Lib.hid ST.out.apart
      have hC := ST.out.hC
      clear hbk x0 x1 x2 hc3 ho3 ST
      go_wp2_with fail
      refine wp_region_noPanic ?_
      refine wp_region_held_drew (S := (fun w' => w'.cell? ⟨b, off + k * 3, none⟩ = some (.int .i64 kd) ∧ w'.cell? ⟨b, off + k * 3 + 1, none⟩ = some (.int .i64 old) ∧ w'.cell? ⟨b, off + k * 3 + 2, none⟩ = some (.int .i64 x))) (by kernel_rfl) ?_ (fun hHeld => ?_)
      · first | exact ⟨y0, y1, y2⟩ | exact ⟨(World.cell?_of_block (w := w3) Z4.out).trans y0, (World.cell?_of_block (w := w3) Z4.out).trans y1, (World.cell?_of_block (w := w3) Z4.out).trans y2⟩
      refine wpAnyH_take (i := 0) (oi := ⟨some 38, _, _, _, _, _⟩) (v := ?_) rfl (by kernel_rfl) (by kernel_rfl) (by kernel_rfl) (fun _ _ _ h => h) (Or.inl ⟨by rfl, ?_⟩) (by assumption) ?_
      rotate_left
      · (intro w hSw; (try dsimp only at hSw); go_simp; try with_reducible rfl)
      try simp only [Act.put, List.setIfInBounds_toArray, List.set_cons_zero, List.set_cons_succ]
      refine wpAnyH_take (i := 1) (oi := ⟨some 39, _, _, _, _, _⟩) (v := ?_) rfl (by kernel_rfl) (by kernel_rfl) (by kernel_rfl) (fun _ _ _ h => h) (Or.inl ⟨by rfl, ?_⟩) (by assumption) ?_
      rotate_left
      · (intro w hSw; (try dsimp only at hSw); go_simp; try with_reducible rfl)
      try simp only [Act.put, List.setIfInBounds_toArray, List.set_cons_zero, List.set_cons_succ]
      refine wpAnyH_take (i := 2) (oi := ⟨some 40, _, _, _, _, _⟩) (v := ?_) rfl (by kernel_rfl) (by kernel_rfl) (by kernel_rfl) (fun _ _ _ h => h) (Or.inl ⟨by rfl, ?_⟩) (by assumption) ?_
      rotate_left
      · (intro w hSw; (try dsimp only at hSw); go_simp; try with_reducible rfl)
      try simp only [Act.put, List.setIfInBounds_toArray, List.set_cons_zero, List.set_cons_succ]
      refine wpAnyH_take (i := 3) (oi := ⟨some 41, _, _, _, _, _⟩) (v := ?_) rfl (by kernel_rfl) (by kernel_rfl) (by kernel_rfl) (fun _ _ _ h => h) (Or.inl ⟨by rfl, ?_⟩) (by assumption) ?_
      rotate_left
      · (intro w hSw; (try dsimp only at hSw); go_simp; try with_reducible rfl)
      try simp only [Act.put, List.setIfInBounds_toArray, List.set_cons_zero, List.set_cons_succ]
      refine wpAnyH_take (i := 4) (oi := ⟨some 42, _, _, _, _, _⟩) (v := ?_) rfl (by kernel_rfl) (by kernel_rfl) (by kernel_rfl) (fun _ _ _ h => h) (Or.inl ⟨by rfl, ?_⟩) (by assumption) ?_
      rotate_left
      · (intro w hSw; (try dsimp only at hSw); go_simp; try with_reducible rfl)
      try simp only [Act.put, List.setIfInBounds_toArray, List.set_cons_zero, List.set_cons_succ]
      refine wpAnyH_take (i := 5) (oi := ⟨some 43, _, _, _, _, _⟩) (v := ?_) rfl (by kernel_rfl) (by kernel_rfl) (by kernel_rfl) (fun _ _ _ h => h) (Or.inl ⟨by rfl, ?_⟩) (by assumption) ?_
      rotate_left
      · (intro w hSw; (try dsimp only at hSw); go_simp; try with_reducible rfl)
      try simp only [Act.put, List.setIfInBounds_toArray, List.set_cons_zero, List.set_cons_succ]
      refine wpAnyH_take (i := 6) (oi := ⟨some 44, _, _, _, _, _⟩) (v := ?_) rfl (by kernel_rfl) (by kernel_rfl) (by kernel_rfl) (fun _ _ _ h => h) (Or.inl ⟨by rfl, ?_⟩) (by assumption) ?_
      rotate_left
      · (intro w hSw; (try dsimp only at hSw); go_simp; try with_reducible rfl)
      try simp only [Act.put, List.setIfInBounds_toArray, List.set_cons_zero, List.set_cons_succ]
      refine wpAnyH_take (i := 7) (oi := ⟨some 45, _, _, _, _, _⟩) (v := ?_) rfl (by kernel_rfl) (by kernel_rfl) (by kernel_rfl) (fun _ _ _ h => h) (Or.inl ⟨by rfl, ?_⟩) (by assumption) ?_
      rotate_left
      · (intro w hSw; (try dsimp only at hSw); go_simp; try with_reducible rfl)
      try simp only [Act.put, List.setIfInBounds_toArray, List.set_cons_zero, List.set_cons_succ]
      refine wpAnyH_take (i := 8) (oi := ⟨some 46, _, _, _, _, _⟩) (v := ?_) rfl (by kernel_rfl) (by kernel_rfl) (by kernel_rfl) (fun _ _ _ h => h) (Or.inl ⟨by rfl, ?_⟩) (by assumption) ?_
      rotate_left
      · (intro w hSw; (try dsimp only at hSw); go_simp; try with_reducible rfl)
      try simp only [Act.put, List.setIfInBounds_toArray, List.set_cons_zero, List.set_cons_succ]
      refine wpAnyH_take (i := 9) (oi := ⟨some 47, _, _, _, _, _⟩) (v := ?_) rfl (by kernel_rfl) (by kernel_rfl) (by kernel_rfl) (fun _ _ _ h => h) (Or.inl ⟨by rfl, ?_⟩) (by assumption) ?_
      rotate_left
      · (intro w hSw; (try dsimp only at hSw); go_simp; try with_reducible rfl)
      try simp only [Act.put, List.setIfInBounds_toArray, List.set_cons_zero, List.set_cons_succ]
      refine wpAnyH_take (i := 10) (oi := ⟨some 48, _, _, _, _, _⟩) (v := ?_) rfl (by kernel_rfl) (by kernel_rfl) (by kernel_rfl) (fun _ _ _ h => h) (Or.inl ⟨by rfl, ?_⟩) (by assumption) ?_
      rotate_left
      · (intro w hSw; (try dsimp only at hSw); go_simp; try with_reducible rfl)
      try simp only [Act.put, List.setIfInBounds_toArray, List.set_cons_zero, List.set_cons_succ]
      refine wpAnyH_take (i := 11) (oi := ⟨some 49, _, _, _, _, _⟩) (v := ?_) rfl (by kernel_rfl) (by kernel_rfl) (by kernel_rfl) (fun _ _ _ h => h) (Or.inl ⟨by rfl, ?_⟩) (by assumption) ?_
      rotate_left
      · (intro w hSw; (try dsimp only at hSw); go_simp; try with_reducible rfl)
      try simp only [Act.put, List.setIfInBounds_toArray, List.set_cons_zero, List.set_cons_succ]
      refine wpAnyH_take (i := 12) (oi := ⟨some 50, _, _, _, _, _⟩) (v := ?_) rfl (by kernel_rfl) (by kernel_rfl) (by kernel_rfl) (fun _ _ _ h => h) (Or.inl ⟨by rfl, ?_⟩) (by assumption) ?_
      rotate_left
      · (intro w hSw; (try dsimp only at hSw); go_simp; try with_reducible rfl)
      try simp only [Act.put, List.setIfInBounds_toArray, List.set_cons_zero, List.set_cons_succ]
      refine wpAnyH_take (i := 13) (oi := ⟨some 51, _, _, _, _, _⟩) (v := ?_) rfl (by kernel_rfl) (by kernel_rfl) (by kernel_rfl) (fun _ _ _ h => h) (Or.inl ⟨by rfl, ?_⟩) (by assumption) ?_
      rotate_left
      · (intro w hSw; (try dsimp only at hSw); go_simp; try with_reducible rfl)
      try simp only [Act.put, List.setIfInBounds_toArray, List.set_cons_zero, List.set_cons_succ]
      refine wpAnyH_take (i := 14) (oi := ⟨some 52, _, _, _, _, _⟩) (v := ?_) rfl (by kernel_rfl) (by kernel_rfl) (by kernel_rfl) (fun _ _ _ h => h) (Or.inl ⟨by rfl, ?_⟩) (by assumption) ?_
      rotate_left
      · (intro w hSw; (try dsimp only at hSw); go_simp; try with_reducible rfl)
      try simp only [Act.put, List.setIfInBounds_toArray, List.set_cons_zero, List.set_cons_succ]
      refine wpAnyH_take (i := 15) (oi := ⟨some 53, _, _, _, _, _⟩) (v := ?_) rfl (by kernel_rfl) (by kernel_rfl) (by kernel_rfl) (fun _ _ _ h => h) (Or.inl ⟨by rfl, ?_⟩) (by assumption) ?_
      rotate_left
      · (intro w hSw; (try dsimp only at hSw); go_simp; try with_reducible rfl)
      try simp only [Act.put, List.setIfInBounds_toArray, List.set_cons_zero, List.set_cons_succ]
      refine wpAnyH_ready (rs := [16]) (by kernel_rfl) (by simp) ?_
      refine AllReadyH.cons (o := ⟨some 54, _, _, _, _, _⟩) rfl (fun K hK => ?_) AllReadyH.nil
      go_simp
      refine (ref_do w2.heap.size kd old x v k w3.drew X3.out (by omega) (by omega)).mono ?_
      rintro e w4 ⟨rfl, hc4, ho4⟩
      have Z4 := Lib.hid (ho4.block b (hb3) (by omega))
      have D4 := Lib.hid (show Did4 w1 w3.drew w4 w1.heap.size w2.heap.size v k kd old x from ⟨hc4, ho4⟩)
      clear hc4 ho4
      go_wp2_with fail
      refine hK.out _ _ ?_ (fun hHeldX => ?_)
      · first | exact ⟨y0, y1, y2⟩ | exact ⟨(World.cell?_of_block (w := w3) Z4.out).trans y0, (World.cell?_of_block (w := w3) Z4.out).trans y1, (World.cell?_of_block (w := w3) Z4.out).trans y2⟩
      clear hK K hHeld
      rename _ => hHeld
      try simp only [Act.put, List.setIfInBounds_toArray, List.set_cons_zero, List.set_cons_succ]
      refine wpAnyH_take (i := 17) (oi := ⟨some 37, _, _, _, _, _⟩) (v := ?_) rfl (by kernel_rfl) (by kernel_rfl) (by kernel_rfl) (fun _ _ _ h => h) (Or.inl ⟨by rfl, ?_⟩) (by assumption) ?_
      rotate_left
      · (intro w hSw; (try dsimp only at hSw); go_simp; try with_reducible rfl)
      try simp only [Act.put, List.setIfInBounds_toArray, List.set_cons_zero, List.set_cons_succ]
      refine wpAnyH_take (i := 18) (oi := ⟨some 55, _, _, _, _, _⟩) (v := ?_) rfl (by kernel_rfl) (by kernel_rfl) (by kernel_rfl) (fun _ _ _ h => h) (Or.inl ⟨by rfl, ?_⟩) (by assumption) ?_
      rotate_left
      · (intro w hSw; (try dsimp only at hSw); go_simp; try with_reducible rfl)
      try simp only [Act.put, List.setIfInBounds_toArray, List.set_cons_zero, List.set_cons_succ]
      refine wpAnyH_take (i := 19) (oi := ⟨some 56, _, _, _, _, _⟩) (v := ?_) rfl (by kernel_rfl) (by kernel_rfl) (by kernel_rfl) (fun _ _ _ h => h) (Or.inl ⟨by rfl, ?_⟩) (by assumption) ?_
      rotate_left
      · (intro w hSw; (try dsimp only at hSw); go_simp; try with_reducible rfl)
      try simp only [Act.put, List.setIfInBounds_toArray, List.set_cons_zero, List.set_cons_succ]
      refine wpAnyH_take (i := 20) (oi := ⟨some 10, _, _, _, _, _⟩) (v := ?_) rfl (by kernel_rfl) (by kernel_rfl) (by kernel_rfl) (fun _ _ _ h => h) (Or.inl ⟨by rfl, ?_⟩) (by assumption) ?_
      rotate_left
      · (intro w hSw; (try dsimp only at hSw); go_simp; try with_reducible rfl)
      try simp only [Act.put, List.setIfInBounds_toArray, List.set_cons_zero, List.set_cons_succ]
      refine wpAnyH_take (i := 21) (oi := ⟨some 11, _, _, _, _, _⟩) (v := ?_) rfl (by kernel_rfl) (by kernel_rfl) (by kernel_rfl) (fun _ _ _ h => h) (Or.inl ⟨by rfl, ?_⟩) (by assumption) ?_
      rotate_left
      · (intro w hSw; (try dsimp only at hSw); go_simp; try with_reducible rfl)
      try simp only [Act.put, List.setIfInBounds_toArray, List.set_cons_zero, List.set_cons_succ]
      refine wpAnyH_done (by kernel_rfl) ?_ _
      refine NoPanic.normal ?_
      have hc4 : CellIs 45 w4 w1.heap.size (.int .i64 (accV kd old x v)) (k + 1) := (show CellIs _ w3.drew _ _ _ from C3.out).only D4.out.only AP.out
      have z0 := D4.out.x.cell0
      have z1 := D4.out.x.cell1
      have B4 := Lib.hid (show Below w1.heap.size w1 w4 from Only.below_step (b := w3.drew) hz3 B3.out.drew D4.out.only (fun i hi e => by omega))
      have HC4 := Lib.hid hc4
      clear hc4
      generalize hv : accV kd old x v = v' at HC4 z0 z1 D4
      generalize accA kd v = ra
      generalize accB kd old v = rb
      have X4 := Lib.hid (show CellIs 28 w4 w2.heap.size (.int .i64 v') (k + 1) from hv ▸ D4.out.x)
      clear D4 B3 X3 C3 y0 y1 y2 Z4 hHeld hv
      go_wp2_with fail
      go_quiet (first | (go_at_call 9; exact quiet_left (peek_int w1.heap.size v' (k + 1) _ HC4.out)) | (go_at_call 10; exact quiet_left (count_int w1.heap.size v' (k + 1) _ HC4.out)))
      go_wp2_with fail
      have hgk := HK.out
      go_roundg (gk - 1)
      case rel => exact ⟨k + 1, v', by omega, by go_num, ⟨HC4.out, X4.out, below_draws B4.out _, AP.out, Nat.le_refl _, hC⟩⟩
      case measure => omega
    · have hlt' : decide (k < L.length) = false := by simpa using hlt
      go_wp2
      go_ret
      exact ⟨rfl, B2.out.trans (ST.out.below.mono B2.out.size)⟩

end Go.Proofs.Ytimggoikjipblaa
