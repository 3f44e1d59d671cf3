/- Ranging over a set of numbers; the law's own 'list'. -/
import Derived.RangeFuncNested
import Derived.RangeFuncBound
import Derived.RangeFuncCalls
import Derived.RangeFuncLeaves
import Derived.RangeFuncBox
import Derived.Shelf.Abstract
import Derived.Shelf.RegionOpen
import Derived.WalkKit
import Derived.OwnWalkIn
import Derived.TacticsInMore
import Derived.LoopNIn
import Derived.LoopIn
import Derived.IntWalk
import Derived.Maps.AppendAt
import Derived.Deep.AppendLies
import Derived.Test.YtmfejpbijllojaaGreatSet3
namespace Go.Proofs.YtmfejpbijllojaaGreat
open Go.RowKit Go.Shelf

theorem set_All (s : Value) (L : List Int) (w : World) (h : NumsIn w s L) :
    Calls Tryz.prog 34 #[.agg #[s]] w fun e w' => e = .returned (.func (.func 55) #[] #[.pointer (some ⟨w.heap.size, 0, none⟩)]) ∧ w' = w.alloc (.cells #[s] 46) := by
  rcases h.2 with ⟨rfl, h0⟩ | ⟨b, off, cap, rfl, _, _, hc⟩
  all_goals
    go_enter Tryz.func34, Tryz.ntmps34
    go_wp2
    go_ret
    exact ⟨rfl, rfl⟩

abbrev encN (x : Int) : Array Value := #[.int .i64 x]
/-- A slice of numbers that lies below n. -/
def LiesIn (W : World) (n₀ : Nat) (v : Value) (L : List Int) : Prop :=
  (v = .slice none 0 0 ∧ L = []) ∨ ∃ b off cap, v = .slice (some ⟨b, off, none⟩) L.length cap ∧ L.length ≤ cap ∧ b < n₀ ∧ CellsAt W b off (L.map numV)
theorem NumsIn.lies {W : World} {v : Value} {L : List Int} (h : NumsIn W v L) : LiesIn W W.heap.size v L := by
  rcases h.2 with ⟨hv, h0⟩ | ⟨b, off, cap, hv, hn, hb, hc⟩
  · exact .inl ⟨hv, List.eq_nil_of_length_eq_zero h0⟩
  · exact .inr ⟨b, off, cap, hv, hn, hb, hc⟩
theorem LiesIn.nums {W : World} {n₀ : Nat} {v : Value} {L : List Int} (h : LiesIn W n₀ v L) (hn : n₀ ≤ W.heap.size) : NumsIn W v L := by
  rcases h with ⟨hv, rfl⟩ | ⟨b, off, cap, hv, h1, hlt, hc⟩
  · exact ⟨rfl, .inl ⟨hv, rfl⟩⟩
  · exact ⟨by simp, .inr ⟨b, off, cap, hv, h1, by omega, hc⟩⟩
theorem LiesIn.mono {W : World} {n₀ n₁ : Nat} {v : Value} {L : List Int} (h : LiesIn W n₀ v L) (hn : n₀ ≤ n₁) : LiesIn W n₁ v L := by
  rcases h with h | ⟨b, off, cap, hv, h1, hlt, hc⟩
  · exact .inl h
  · exact .inr ⟨b, off, cap, hv, h1, by omega, hc⟩
theorem LiesIn.below {W W' : World} {n₀ : Nat} {v : Value} {L : List Int} (h : LiesIn W n₀ v L) (hb : Below n₀ W W') : LiesIn W' n₀ v L := by
  rcases h with h | ⟨b, off, cap, hv, hn, hlt, hc⟩
  · exact .inl h
  · exact .inr ⟨b, off, cap, hv, hn, hlt, hc.below hb hlt⟩

set_option maxRecDepth 100000 in
set_option maxHeartbeats 1000000 in
theorem set_All1 (n : Nat) (hn : 1 ≤ n) (l Bn n₀ : Nat) (s : Value) (L : List Int) (hbig : L.length ≤ 1000000) (J Jx : List Int → World → Prop) (W : World)
    (hY : ∀ pre x W1, J pre W1 → pre.length < L.length → YieldAt Fence.wide (n - 1) Tryz.prog l (encN x) W1 fun e W' =>
      (e = .returned (.bool true) ∧ J (pre ++ [x]) W' ∧ Below n₀ W1 W') ∨ (e = .returned (.bool false) ∧ Jx (pre ++ [x]) W'))
    (hBn : W.cell? ⟨Bn, 0, none⟩ = some s) (hs : LiesIn W n₀ s L) (h0 : J [] W) :
    CallsIn Fence.wide n Tryz.prog 55 #[.func (.yield l) #[] #[], .pointer (some ⟨Bn, 0, none⟩)] W fun e W' => (∃ v, e = .returned v) ∧
      ((∃ ys, ys = L ∧ J ys W') ∨ (∃ pre, pre <+: L ∧ Jx pre W')) := by
  rcases hs with ⟨rfl, rfl⟩ | ⟨b, off, cap, rfl, _, hlt, hc⟩
  · refine callsIn_of_wp Tryz.func55 rfl trivial ?_ rfl
    simp only [Tryz.ntmps55, List.size_toArray, List.length_cons, List.length_nil, Nat.reduceAdd, Nat.reduceSub, Array.replicate_succ, Array.replicate_zero, List.push_toArray, List.append_toArray, List.nil_append, List.cons_append]
    gi_wp2
    gi_loopw [8] (fun i wr => i = .int .i64 0 ∧ J [] wr) (fun _ _ => 0)
    case atStart => exact ⟨rfl, h0⟩
    case round =>
      obtain ⟨rfl, hJs⟩ := hrel
      gi_wp2
      go_end0
      exact ⟨⟨_, rfl⟩, .inl ⟨[], rfl, hJs⟩⟩
  · have C := Lib.hid (cells_num hc)
    have HT : Hid (∀ k, k < L.length → L.take (k + 1) = L.take k ++ [L.getD k 0]) := fun k hk => by
      rw [List.take_succ_eq_append_getElem hk]; simp [List.getD, List.getElem?_eq_getElem hk]
    clear hc
    refine callsIn_of_wp Tryz.func55 rfl trivial ?_ rfl
    simp only [Tryz.ntmps55, List.size_toArray, List.length_cons, List.length_nil, Nat.reduceAdd, Nat.reduceSub, Array.replicate_succ, Array.replicate_zero, List.push_toArray, List.append_toArray, List.nil_append, List.cons_append]
    gi_wp2
    gi_loopw [8] (fun i wr => ∃ k : Nat, k ≤ L.length ∧ i = .int .i64 k ∧ J (L.take k) wr ∧ Below n₀ W wr) (fun i _ => L.length - (intOf i).toNat)
    case atStart => exact ⟨0, Nat.zero_le _, rfl, h0, Below.refl _ _⟩
    case round =>
      obtain ⟨k, hk, rfl, hJs, hB⟩ := hrel
      by_cases hkl : k < L.length
      · have hcell := (hB.cell (p := ⟨b, off + k, none⟩) hlt).trans (C.out k hkl)
        have T := Lib.hid (HT.out k hkl)
        generalize hy : L.getD k 0 = y at hcell
        have Y := Lib.hid hy
        clear hy
        obtain ⟨fn, tmps, assign, body, hy, hR⟩ := hY (L.take k) y wr hJs (by simp; omega)
        dsimp only [encN] at hy
        gi_wp2
        refine hR.mono ?_
        rintro e W3 (⟨rfl, hJ3, hB3⟩ | ⟨rfl, hJx3⟩)
        · gi_wp2
          go_roundw
          case rel =>
            refine ⟨k + 1, by omega, by go_num, ?_, hB.trans hB3⟩
            rw [T.out, Y.out]; exact hJ3
          case measure => simp [intOf]; omega
        · gi_wp2
          refine bodyPost_ret (results_none rfl _ _ _) rfl ?_
          refine ⟨⟨_, rfl⟩, .inr ⟨L.take k ++ [y], ?_, hJx3⟩⟩
          rw [← Y.out, ← T.out]; exact List.take_prefix _ _
      · gi_wp2
        go_end0
        refine ⟨⟨_, rfl⟩, .inl ⟨L, rfl, ?_⟩⟩
        rw [List.take_of_length_le (by omega)] at hJs; exact hJs

/-- What All answers tells the values one by one, rising; or a beginning of them, where it was told to stop. -/
theorem set_All_stops (n : Nat) (hn : 1 ≤ n) (Bn n₀ : Nat) (s : Value) (L : List Int) (hbig : L.length ≤ 1000000) (w : World) (hBn : Bn < w.heap.size) (hn0 : n₀ ≤ w.heap.size) (hc : w.cell? ⟨Bn, 0, none⟩ = some s) (hs : LiesIn w n₀ s L) :
    SeqStopsK Fence.wide n Tryz.prog 55 #[.pointer (some ⟨Bn, 0, none⟩)] encN (Below n₀) (fun ys => ys = L) (fun pre => pre <+: L) L.length w := fun l J Jx W hW _ _ hY h0 =>
  set_All1 n hn l Bn n₀ s L hbig J Jx W hY ((hW.cell (p := ⟨Bn, 0, none⟩) hBn).trans hc) (hs.below (hW.mono hn0)) h0

end Go.Proofs.YtmfejpbijllojaaGreat
