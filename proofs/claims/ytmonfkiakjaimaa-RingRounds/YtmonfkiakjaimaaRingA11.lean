/- Layer 11 (package ring, of ints): going through what a ring has now (held). -/
import Derived.RangeFuncNested
import Derived.RangeFuncBound
import Derived.RangeFuncCalls
import Derived.RangeFuncLeaves
import Derived.RangeFuncBox
import Derived.Shelf.Abstract
import Derived.Shelf.RegionOpen
import Derived.Stop.RegionWithIn
import Derived.WalkKit
import Derived.OwnWalkIn
import Derived.TacticsInMore
import Derived.LoopNIn
import Derived.LoopIn
import Derived.IntWalk
import Derived.Test.YtmonfkiakjaimaaRingP11
namespace Go.Proofs.Ytmonfkiakjaimaa
open Go.RowKit Go.Shelf

abbrev encR (x : Int) : Array Value := #[.int .i64 x]
theorem abides_draws {β : Type} {B : Nat} {J : β → World → Prop} (h : AbidesFrom B J) {s : β} {W : World} (hs : J s W) (m : Nat) : J s (W.drewN m) :=
  h s W _ none hs ⟨rfl, rfl, rfl, Nat.le_refl _, fun _ _ _ => rfl⟩ (fun r e => by cases e)
/-- The value k behind the next one to get. -/
theorem slot_k {x : Rg} (h : RgOk x) {k : Nat} (hk : k < x.L.length) : (slotZ x ((x.g + k) % x.n)).1 = x.L.getD k 0 := by
  have h1 := h.one
  have h2 := h.fit
  unfold slotZ
  rw [tick_of (by omega) (by omega) (by omega), if_pos (by unfold Rg.p; omega), show x.g + k - x.g = k by omega]
/-- What a round keeps: whatever lies below, and the box that the iterator reads. -/
def KpH (n₀ Bn : Nat) (W W' : World) : Prop := Below n₀ W W' ∧ ∀ v, W.cell? ⟨Bn, 0, none⟩ = some v → W'.cell? ⟨Bn, 0, none⟩ = some v
theorem KpH.trans {n₀ Bn : Nat} {A B C : World} (h : KpH n₀ Bn A B) (k : KpH n₀ Bn B C) : KpH n₀ Bn A C := ⟨h.1.trans k.1, fun v hv => k.2 v (h.2 v hv)⟩
theorem KpH.draws {n₀ Bn : Nat} {A B : World} (h : KpH n₀ Bn A B) (m : Nat) : KpH n₀ Bn A (B.drewN m) := ⟨below_draws h.1 m, h.2⟩
theorem kpH_book {n₀ Bn : Nat} {w : World} (hn : n₀ ≤ w.heap.size) (W : World) (l : Nat) (o o' : Obj) (hl : w.heap.size ≤ l) (h : W.heap[l]? = some o) (h1 : o.isCells = false) (h2 : o.isWalk = false) : KpH n₀ Bn W (W.putObj l o') :=
  ⟨belowK_b hn W l o o' hl h h1 h2, fun v hv => cell_kept hv (grownBy_putObj' W l o') (fun r e => by cases e; exact ⟨_, h, h1⟩)⟩
set_option maxRecDepth 100000 in
set_option maxHeartbeats 2000000 in
theorem rg_held1 (n : Nat) (hn : 1 ≤ n) (l Bn B S n₀ : Nat) (x : Rg) (hg : x.g ≤ 100000) (J Jx : List Int → World → Prop) (W : World) (A0 : Nat) (hJ : AbidesFrom A0 J)
    (hY : ∀ pre y W1, J pre W1 → pre.length < x.L.length → YieldAt Fence.wide (n - 1) Try.prog l (encR y) W1 fun e W' =>
      (e = .returned (.bool true) ∧ J (pre ++ [y]) W' ∧ KpH n₀ Bn W1 W') ∨ (e = .returned (.bool false) ∧ Jx (pre ++ [y]) W'))
    (hBn : W.cell? ⟨Bn, 0, none⟩ = some (.pointer (some ⟨B, 0, none⟩))) (h : RgIs W B S x) (hB : B < n₀) (hS : S < n₀) (h0 : J [] W) :
    CallsIn Fence.wide n Try.prog 27 #[.func (.yield l) #[] #[], .pointer (some ⟨Bn, 0, none⟩)] W fun e W' => (∃ v, e = .returned v) ∧
      ((∃ ys, ys = x.L ∧ J ys W') ∨ (∃ pre, pre <+: x.L ∧ Jx pre W')) := by
  have hf := h.ok.fit
  have hm := h.ok.most
  have H := Lib.hid h
  have HL := Lib.hid (rg_Len h (by omega))
  have HT : Hid (∀ k, k < x.L.length → x.L.take (k + 1) = x.L.take k ++ [x.L.getD k 0]) := Lib.hid fun k hk => by
    rw [List.take_succ_eq_append_getElem hk]; simp [List.getD, List.getElem?_eq_getElem hk]
  generalize hml : x.L.length = m at *
  have HM := Lib.hid hml
  clear h hml
  refine callsIn_of_wp Try.func27 rfl trivial ?_ rfl
  simp only [Try.ntmps27, List.size_toArray, List.length_cons, List.length_nil, Nat.reduceAdd, Nat.reduceSub, Array.replicate_succ, Array.replicate_zero, List.push_toArray, List.append_toArray, List.nil_append, List.cons_append]
  gi_wp2_with fail
  refine ⟨trivial, (callsIn_wide.2 HL.out).mono ?_⟩
  rintro e w' ⟨rfl, n1, rfl⟩
  gi_wp2
  gi_loopw [6] (fun i wr => ∃ k : Nat, k ≤ m ∧ i = .int .i64 k ∧ J (x.L.take k) wr ∧ Hid (KpH n₀ Bn W wr)) (fun i _ => m - (intOf i).toNat)
  case atStart => exact ⟨0, Nat.zero_le _, rfl, abides_draws hJ h0 _, Lib.hid (KpH.draws (A := W) (B := W) ⟨Below.refl _ _, fun _ h => h⟩ _)⟩
  case round =>
    obtain ⟨k, hk, rfl, hJs, HB⟩ := hrel
    by_cases hkl : k < m
    · have Hr : Hid (RgIs wr B S x) := Lib.hid (H.out.only (show Only (fun k => n₀ ≤ k) W wr from ⟨HB.out.1.os, HB.out.1.tape, HB.out.1.output, HB.out.1.size, fun k hk hn => HB.out.1.block k (by omega)⟩) (fun k hk => by rcases hk with rfl | rfl <;> omega))
      have c0 := HB.out.2 _ hBn
      have c2 := Hr.out.blk.at (o := 2) rfl
      have A1 : Hid (∀ q, Calls Try.prog 22 #[.pointer (some ⟨B, 0, none⟩), .int .i64 ((x.g : Int) + (k : Int))] (wr.drewN q) fun e w' => e = .returned (.pointer (some ⟨S, (x.g + k) % x.n * 2, none⟩)) ∧ ∃ r, w' = wr.drewN (q + r)) := Lib.hid fun q => (rg_at (Hr.out.drewN q) (x.g + k) (by omega)).mono fun e w' ⟨h1, r, h2⟩ => ⟨h1, r, by rw [h2, World.drewN_drewN]⟩
      obtain ⟨cv, _⟩ := Hr.out.at (i := (x.g + k) % x.n) (Nat.mod_lt _ (by have := Hr.out.ok.one; omega))
      rw [slot_k Hr.out.ok (by have := HM.out; omega)] at cv
      replace cv : wr.cell? _ = some (.int .i64 (x.L.getD k 0)) := cv
      have T := Lib.hid (HT.out k hkl)
      generalize hy : x.L.getD k 0 = y at cv
      have YY := Lib.hid hy
      clear hy
      have hw : IntKind.i64.wrap ((x.g : Int) + (k : Int)) = ((x.g + k : Nat) : Int) := IntWalk.i64_in _ (by omega)
      have hYk : Hid (∀ q, YieldAt Fence.wide (n - 1) Try.prog l (encR y) (wr.drewN q) fun e W' => ∃ b, e = .returned (.bool b) ∧ ((b = true ∧ J (x.L.take k ++ [y]) W' ∧ KpH n₀ Bn (wr.drewN q) W') ∨ (b = false ∧ Jx (x.L.take k ++ [y]) W'))) := Lib.hid fun q => by
        obtain ⟨fn, tm, asg, bd, hyy, hR⟩ := hY (x.L.take k) y (wr.drewN q) (abides_draws hJ hJs q) (by simp; have := HM.out; omega)
        refine ⟨fn, tm, asg, bd, hyy, hR.mono fun e W' h => ?_⟩
        rcases h with ⟨h1, h2, h3⟩ | ⟨h1, h2⟩
        · exact ⟨true, h1, .inl ⟨rfl, h2, h3⟩⟩
        · exact ⟨false, h1, .inr ⟨rfl, h2⟩⟩
      gi_wp2
      gi_region_with (first
        | (refine ⟨trivial, (callsIn_wide.2 (A1.out 1)).mono ?_⟩; rintro e w9 ⟨rfl, q1, rfl⟩; obtain ⟨fn, tm, asg, bd, hyy, hR⟩ := hYk.out (1 + q1); dsimp only [encR] at hyy)
        | (refine hR.mono ?_; rintro e W3 ⟨b, rfl, hd⟩))
      all_goals
        rcases hd with ⟨rfl, hJ3, hB3⟩ | ⟨rfl, hJx3⟩
        · gi_wp2
          go_roundw
          case rel =>
            refine ⟨k + 1, by omega, by go_num, ?_, Lib.hid ((HB.out.draws (1 + q1)).trans hB3)⟩
            rw [T.out, YY.out]; exact hJ3
          case measure => simp [intOf]; omega
        · gi_wp2
          refine bodyPost_ret (results_none rfl _ _ _) rfl ?_
          refine ⟨⟨_, rfl⟩, .inr ⟨x.L.take k ++ [y], ?_, hJx3⟩⟩
          rw [← YY.out, ← T.out]; exact List.take_prefix _ _
    · gi_wp2
      go_end0
      refine ⟨⟨_, rfl⟩, .inl ⟨x.L, rfl, ?_⟩⟩
      rw [List.take_of_length_le (by have := HM.out; omega)] at hJs; exact hJs

/-- What held tells goes through what the ring has, or a beginning of it. -/
theorem rg_held_stops (n : Nat) (hn : 1 ≤ n) (Bn B S n₀ : Nat) (x : Rg) (hg : x.g ≤ 100000) (w : World) (hc : w.cell? ⟨Bn, 0, none⟩ = some (.pointer (some ⟨B, 0, none⟩))) (hBn : Bn < w.heap.size) (h : RgIs w B S x) (hB : B < n₀) (hS : S < n₀) :
    SeqStopsK Fence.wide n Try.prog 27 #[.pointer (some ⟨Bn, 0, none⟩)] encR (KpH n₀ Bn) (fun ys => ys = x.L) (fun pre => pre <+: x.L) x.L.length w := fun l J Jx W hW hJ _ hY h0 =>
  rg_held1 n hn l Bn B S n₀ x hg J Jx W _ hJ hY ((hW.cell (p := ⟨Bn, 0, none⟩) hBn).trans hc) (h.below hW) hB hS h0
theorem rg_held (p : Option Addr) (w : World) : Calls Try.prog 25 #[.pointer p] w fun e w' => e = .returned (.func (.func 27) #[] #[.pointer (some ⟨w.heap.size, 0, none⟩)]) ∧ w' = w.alloc (.cells #[.pointer p] 24) := by
  go_enter Try.func25, Try.ntmps25
  go_wp2
  go_ret
  exact ⟨rfl, rfl⟩
/-- Of a nil ring. -/
theorem rg_held1_nil (n : Nat) (hn : 1 ≤ n) (l Bn : Nat) (J Jx : List Int → World → Prop) (W : World) (hBn : W.cell? ⟨Bn, 0, none⟩ = some (.pointer none)) (h0 : J [] W) :
    CallsIn Fence.wide n Try.prog 27 #[.func (.yield l) #[] #[], .pointer (some ⟨Bn, 0, none⟩)] W fun e W' => (∃ v, e = .returned v) ∧
      ((∃ ys, ys = [] ∧ J ys W') ∨ (∃ pre, pre <+: [] ∧ Jx pre W')) := by
  refine callsIn_of_wp Try.func27 rfl trivial ?_ rfl
  simp only [Try.ntmps27, List.size_toArray, List.length_cons, List.length_nil, Nat.reduceAdd, Nat.reduceSub, Array.replicate_succ, Array.replicate_zero, List.push_toArray, List.append_toArray, List.nil_append, List.cons_append]
  gi_wp2_with fail
  refine ⟨trivial, (callsIn_wide.2 (rg_Len_nil W)).mono ?_⟩
  rintro e w' ⟨rfl, rfl⟩
  gi_wp2
  gi_loopw [6] (fun i wr => i = .int .i64 0 ∧ J [] wr) (fun _ _ => 0)
  case atStart => exact ⟨rfl, h0⟩
  case round =>
    obtain ⟨rfl, hJs⟩ := hrel
    gi_wp2
    go_end0
    exact ⟨⟨_, rfl⟩, .inl ⟨[], rfl, hJs⟩⟩
theorem rg_held_stops_nil (n : Nat) (hn : 1 ≤ n) (Bn n₀ : Nat) (w : World) (hc : w.cell? ⟨Bn, 0, none⟩ = some (.pointer none)) (hBn : Bn < w.heap.size) :
    SeqStopsK Fence.wide n Try.prog 27 #[.pointer (some ⟨Bn, 0, none⟩)] encR (KpH n₀ Bn) (fun ys => ys = []) (fun pre => pre <+: []) 0 w := fun l J Jx W hW _ _ _ h0 =>
  rg_held1_nil n hn l Bn J Jx W ((hW.cell (p := ⟨Bn, 0, none⟩) hBn).trans hc) h0

end Go.Proofs.Ytmonfkiakjaimaa
