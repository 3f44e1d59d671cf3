/- Ranging over a set of numbers; the law's own 'list'. · Go's own binary search by a function, as package set asks it for a level's kid. Made by tools/gen_ptr12.py. -/
import Derived.RangeFuncNested
import Derived.RangeFuncBound
import Derived.RangeFuncCalls
import Derived.RangeFuncLeaves
import Derived.RangeFuncBox
import Derived.Shelf.Abstract
import Derived.Shelf.RegionOpen
import Derived.WalkKit
import Derived.OwnWalkIn
import Derived.TacticsInMore
import Derived.LoopNIn
import Derived.LoopIn
import Derived.IntWalk
import Derived.Maps.AppendAt
import Derived.Deep.AppendLies
import Derived.Test.YtabgedmocdjkcaaSet3
import Derived.Test.YtabgedmocdjkcaaProg
import Derived.Test.YtabgedmocdjkcaaJoin1
import Derived.Test.YtabgedmocdjkcaaKeys3
import Derived.Test.YtabgedmocdjkcaaJoin4
import Derived.Lib.Hide
import Derived.Lib.Strings
import Derived.Laws.Cover1
import Derived.Deep.LoopGhost
namespace Go.Proofs.Ytabgedmocdjkcaa
open Go.RowKit Go.Shelf

theorem set_All (s : Value) (L : List Int) (w : World) (h : NumsIn w s L) :
    Calls Try.prog 38 #[.agg #[s]] w fun e w' => e = .returned (.func (.func 56) #[] #[.pointer (some ⟨w.heap.size, 0, none⟩)]) ∧ w' = w.alloc (.cells #[s] 60) := by
  rcases h.2 with ⟨rfl, h0⟩ | ⟨b, off, cap, rfl, _, _, hc⟩
  all_goals
    go_enter Try.func38, Try.ntmps38
    go_wp2
    go_ret
    exact ⟨rfl, rfl⟩

abbrev encN (x : Int) : Array Value := #[.int .i64 x]
/-- A slice of numbers that lies below n. -/
def LiesIn (W : World) (n₀ : Nat) (v : Value) (L : List Int) : Prop :=
  (v = .slice none 0 0 ∧ L = []) ∨ ∃ b off cap, v = .slice (some ⟨b, off, none⟩) L.length cap ∧ L.length ≤ cap ∧ b < n₀ ∧ CellsAt W b off (L.map numV)
theorem NumsIn.lies {W : World} {v : Value} {L : List Int} (h : NumsIn W v L) : LiesIn W W.heap.size v L := by
  rcases h.2 with ⟨hv, h0⟩ | ⟨b, off, cap, hv, hn, hb, hc⟩
  · exact .inl ⟨hv, List.eq_nil_of_length_eq_zero h0⟩
  · exact .inr ⟨b, off, cap, hv, hn, hb, hc⟩
theorem LiesIn.nums {W : World} {n₀ : Nat} {v : Value} {L : List Int} (h : LiesIn W n₀ v L) (hn : n₀ ≤ W.heap.size) : NumsIn W v L := by
  rcases h with ⟨hv, rfl⟩ | ⟨b, off, cap, hv, h1, hlt, hc⟩
  · exact ⟨rfl, .inl ⟨hv, rfl⟩⟩
  · exact ⟨by simp, .inr ⟨b, off, cap, hv, h1, by omega, hc⟩⟩
theorem LiesIn.mono {W : World} {n₀ n₁ : Nat} {v : Value} {L : List Int} (h : LiesIn W n₀ v L) (hn : n₀ ≤ n₁) : LiesIn W n₁ v L := by
  rcases h with h | ⟨b, off, cap, hv, h1, hlt, hc⟩
  · exact .inl h
  · exact .inr ⟨b, off, cap, hv, h1, by omega, hc⟩
theorem LiesIn.below {W W' : World} {n₀ : Nat} {v : Value} {L : List Int} (h : LiesIn W n₀ v L) (hb : Below n₀ W W') : LiesIn W' n₀ v L := by
  rcases h with h | ⟨b, off, cap, hv, hn, hlt, hc⟩
  · exact .inl h
  · exact .inr ⟨b, off, cap, hv, hn, hlt, hc.below hb hlt⟩

set_option maxRecDepth 100000 in
set_option maxHeartbeats 1000000 in
theorem set_All1 (n : Nat) (hn : 1 ≤ n) (l Bn n₀ : Nat) (s : Value) (L : List Int) (hbig : L.length ≤ 1000000) (J Jx : List Int → World → Prop) (W : World)
    (hY : ∀ pre x W1, pre ++ [x] <+: L → J pre W1 → pre.length < L.length → YieldAt Fence.wide (n - 1) Try.prog l (encN x) W1 fun e W' =>
      (e = .returned (.bool true) ∧ J (pre ++ [x]) W' ∧ Below n₀ W1 W') ∨ (e = .returned (.bool false) ∧ Jx (pre ++ [x]) W'))
    (hBn : W.cell? ⟨Bn, 0, none⟩ = some s) (hs : LiesIn W n₀ s L) (h0 : J [] W) :
    CallsIn Fence.wide n Try.prog 56 #[.func (.yield l) #[] #[], .pointer (some ⟨Bn, 0, none⟩)] W fun e W' => (∃ v, e = .returned v) ∧
      ((∃ ys, ys = L ∧ J ys W') ∨ (∃ pre, pre <+: L ∧ Jx pre W')) := by
  rcases hs with ⟨rfl, rfl⟩ | ⟨b, off, cap, rfl, _, hlt, hc⟩
  · refine callsIn_of_wp Try.func56 rfl trivial ?_ rfl
    simp only [Try.ntmps56, List.size_toArray, List.length_cons, List.length_nil, Nat.reduceAdd, Nat.reduceSub, Array.replicate_succ, Array.replicate_zero, List.push_toArray, List.append_toArray, List.nil_append, List.cons_append]
    gi_wp2
    gi_loopw [8] (fun i wr => i = .int .i64 0 ∧ J [] wr) (fun _ _ => 0)
    case atStart => exact ⟨rfl, h0⟩
    case round =>
      obtain ⟨rfl, hJs⟩ := hrel
      gi_wp2
      go_end0
      exact ⟨⟨_, rfl⟩, .inl ⟨[], rfl, hJs⟩⟩
  · have C := Lib.hid (cells_num hc)
    have HT : Hid (∀ k, k < L.length → L.take (k + 1) = L.take k ++ [L.getD k 0]) := fun k hk => by
      rw [List.take_succ_eq_append_getElem hk]; simp [List.getD, List.getElem?_eq_getElem hk]
    clear hc
    refine callsIn_of_wp Try.func56 rfl trivial ?_ rfl
    simp only [Try.ntmps56, List.size_toArray, List.length_cons, List.length_nil, Nat.reduceAdd, Nat.reduceSub, Array.replicate_succ, Array.replicate_zero, List.push_toArray, List.append_toArray, List.nil_append, List.cons_append]
    gi_wp2
    gi_loopw [8] (fun i wr => ∃ k : Nat, k ≤ L.length ∧ i = .int .i64 k ∧ J (L.take k) wr ∧ Below n₀ W wr) (fun i _ => L.length - (intOf i).toNat)
    case atStart => exact ⟨0, Nat.zero_le _, rfl, h0, Below.refl _ _⟩
    case round =>
      obtain ⟨k, hk, rfl, hJs, hB⟩ := hrel
      by_cases hkl : k < L.length
      · have hcell := (hB.cell (p := ⟨b, off + k, none⟩) hlt).trans (C.out k hkl)
        have T := Lib.hid (HT.out k hkl)
        generalize hy : L.getD k 0 = y at hcell
        have Y := Lib.hid hy
        clear hy
        obtain ⟨fn, tmps, assign, body, hy, hR⟩ := hY (L.take k) y wr (by rw [← Y.out, ← T.out]; exact List.take_prefix _ _) hJs (by simp; omega)
        dsimp only [encN] at hy
        gi_wp2
        refine hR.mono ?_
        rintro e W3 (⟨rfl, hJ3, hB3⟩ | ⟨rfl, hJx3⟩)
        · gi_wp2
          go_roundw
          case rel =>
            refine ⟨k + 1, by omega, by go_num, ?_, hB.trans hB3⟩
            rw [T.out, Y.out]; exact hJ3
          case measure => simp [intOf]; omega
        · gi_wp2
          refine bodyPost_ret (results_none rfl _ _ _) rfl ?_
          refine ⟨⟨_, rfl⟩, .inr ⟨L.take k ++ [y], ?_, hJx3⟩⟩
          rw [← Y.out, ← T.out]; exact List.take_prefix _ _
      · gi_wp2
        go_end0
        refine ⟨⟨_, rfl⟩, .inl ⟨L, rfl, ?_⟩⟩
        rw [List.take_of_length_le (by omega)] at hJs; exact hJs

/-- What All answers tells the values one by one, rising; or a beginning of them, where it was told to stop. -/
theorem set_All_stops (n : Nat) (hn : 1 ≤ n) (Bn n₀ : Nat) (s : Value) (L : List Int) (hbig : L.length ≤ 1000000) (w : World) (hBn : Bn < w.heap.size) (hn0 : n₀ ≤ w.heap.size) (hc : w.cell? ⟨Bn, 0, none⟩ = some s) (hs : LiesIn w n₀ s L) :
    SeqStopsK Fence.wide n Try.prog 56 #[.pointer (some ⟨Bn, 0, none⟩)] encN (Below n₀) (fun ys => ys = L) (fun pre => pre <+: L) L.length w := fun l J Jx W hW _ _ hY h0 =>
  set_All1 n hn l Bn n₀ s L hbig J Jx W (fun pre x W1 _ => hY pre x W1) ((hW.cell (p := ⟨Bn, 0, none⟩) hBn).trans hc) (hs.below (hW.mono hn0)) h0

end Go.Proofs.Ytabgedmocdjkcaa

namespace Go.Proofs.Ytabgedmocdjkcaa
open Go.RowKit Go.Shelf

/-- A pointer to a block. -/
abbrev ptrV (n : Int) : Value := .pointer (some ⟨n.toNat, 0, none⟩)
/-- An entry's cells. -/
abbrev encQ (p : Ent) : List Value := [keyV p.1, ptrV p.2]
/-- A slice of entries. -/
abbrev PtsIn (W : World) (v : Value) (E : List Ent) : Prop := SliceK W 2 v E.length (E.flatMap encQ)
theorem pts_len : ∀ E : List Ent, (E.flatMap encQ).length = E.length * 2
  | [] => rfl
  | p :: r => by
    rw [List.flatMap_cons, List.length_append, pts_len r]
    simp only [List.length_cons, List.length_nil]; omega
theorem pts_at : ∀ (E : List Ent) (i : Nat) (p : Ent), E[i]? = some p → (E.flatMap encQ)[i * 2]? = some (keyV p.1) ∧ (E.flatMap encQ)[i * 2 + 1]? = some (ptrV p.2)
  | [], i, p, h => by simp at h
  | q :: r, 0, p, h => by
    obtain rfl : q = p := by simpa using h
    simp [List.flatMap_cons]
  | q :: r, i + 1, p, h => by
    have := pts_at r i p (by simpa using h)
    rw [List.flatMap_cons, show (i + 1) * 2 = (i * 2) + 2 by omega, show i * 2 + 2 + 1 = (i * 2 + 1) + 2 by omega]
    simpa using this
theorem pts_take : ∀ (E : List Ent) (n : Nat), (E.flatMap encQ).take (n * 2) = (E.take n).flatMap encQ
  | [], n => by simp
  | p :: r, 0 => by simp
  | p :: r, n + 1 => by
    rw [List.flatMap_cons, List.take_succ_cons, List.flatMap_cons, ← pts_take r n, show (n + 1) * 2 = n * 2 + 2 by omega]
    simp
theorem pts_drop : ∀ (E : List Ent) (n : Nat), (E.flatMap encQ).drop (n * 2) = (E.drop n).flatMap encQ
  | [], n => by simp
  | p :: r, 0 => by simp
  | p :: r, n + 1 => by
    rw [List.flatMap_cons, List.drop_succ_cons, ← pts_drop r n, show (n + 1) * 2 = n * 2 + 2 by omega]
    simp

theorem pfind_1 (p : Ent) (k : Key) (w : World) : Calls Try.prog 88 #[.agg #[keyV p.1, ptrV p.2], keyV k] w fun e w' => e = .returned (.int .i64 (cmpK p.1 k)) ∧ Below w.heap.size w w' := by
  go_enter Try.func88, Try.ntmps88
  go_wp2_with (go_at_call 89; refine (cmp_Compare _ _ _).mono ?_; rintro e w' ⟨rfl, rfl⟩)
  go_ret
  exact ⟨rfl, (Below.refl _ _).alloc (Nat.le_refl _) _⟩

set_option maxHeartbeats 2000000 in
set_option maxRecDepth 100000 in
theorem pbs_none (k : Key) (a : Option Addr) (c : Nat) (w : World) :
    Calls Try.prog 87 #[.slice a 0 c, keyV k, .func (.func 88) #[] #[]] w fun e w' => e = .returned (.tuple #[.int .i64 0, .bool false]) ∧ Below w.heap.size w w' := by
  go_enter Try.func87, Try.ntmps87
  go_wp2
  go_loopg [9, 10] 0 (fun _ s7 s8 wr => s7 = .int .i64 0 ∧ s8 = .int .i64 0 ∧ wr = w)
  case atStart => exact ⟨rfl, rfl, rfl⟩
  case round =>
    obtain ⟨rfl, rfl, rfl⟩ := hrel
    go_wp2
    go_ret2
    exact ⟨rfl, Below.refl _ _⟩

set_option maxHeartbeats 4000000 in
set_option maxRecDepth 1000000 in
theorem pbs_some (b off c : Nat) (E : List Ent) (k : Key) (w : World) (hbig : E.length ≤ 1000000) (hblt : b < w.heap.size) (hc : CellsAt w b off (E.flatMap encQ)) (hu : KUp E) (fnd : Bool) (hf : fnd = true ↔ ∃ p, E[plc (ltE k) E]? = some p ∧ p.1 = k) :
    Calls Try.prog 87 #[.slice (some ⟨b, off, none⟩) E.length c, keyV k, .func (.func 88) #[] #[]] w fun e w' => e = .returned (.tuple #[.int .i64 (plc (ltE k) E : Nat), .bool fnd]) ∧ Below w.heap.size w w' := by
  obtain ⟨n, hn⟩ : ∃ n, E.length = n := ⟨_, rfl⟩
  have HN := Lib.hid hn
  have C : Hid (∀ i p, E[i]? = some p → w.cell? ⟨b, off + i * 2, none⟩ = some (keyV p.1) ∧ w.cell? ⟨b, off + i * 2 + 1, none⟩ = some (ptrV p.2)) := fun i p hp => by
    have := pts_at E i p hp
    exact ⟨hc _ _ this.1, by rw [Nat.add_assoc]; exact hc _ _ this.2⟩
  have U := Lib.hid hu
  have F := Lib.hid hf
  rw [hn] at hbig ⊢
  clear hc hu hn hf
  go_enter Try.func87, Try.ntmps87
  go_wp2
  go_loopg [9, 10] n (fun g s7 s8 wr => ∃ lo hi : Nat, s7 = .int .i64 lo ∧ s8 = .int .i64 hi ∧ lo ≤ hi ∧ hi ≤ n ∧ hi - lo ≤ g ∧ Below w.heap.size w wr ∧ Hid (∀ t p, t < lo → E[t]? = some p → bl p.1 k = true) ∧ Hid (∀ t p, hi ≤ t → E[t]? = some p → bl p.1 k = false))
  case atStart => exact ⟨0, n, rfl, rfl, Nat.zero_le _, Nat.le_refl _, by omega, Below.refl _ _, fun t p ht => absurd ht (Nat.not_lt_zero _), fun t p h1 h2 => by have := (List.getElem?_eq_some_iff.1 h2).1; rw [HN.out] at this; omega⟩
  case round =>
    obtain ⟨lo, hi, rfl, rfl, hlh, hin, hg, hB, I1, I2⟩ := hrel
    by_cases hlt : lo < hi
    · obtain ⟨p, hp⟩ : ∃ p, E[(lo + hi) / 2]? = some p := ⟨_, List.getElem?_eq_getElem (by rw [HN.out]; omega)⟩
      have PP := Lib.hid hp
      obtain ⟨c1, c2⟩ := C.out _ p hp
      have c1 := (hB.cell (p := ⟨b, off + (lo + hi) / 2 * 2, none⟩) hblt).trans c1
      have c2 := (hB.cell (p := ⟨b, off + (lo + hi) / 2 * 2 + 1, none⟩) hblt).trans c2
      clear hp
      cases hb : bl p.1 k
      · have hcmp : cmpK p.1 k = 0 ∨ cmpK p.1 k = 1 := by
          unfold cmpK
          rw [hb]
          by_cases e : p.1 = k
          · left; simp [e]
          · right; simp [e]
        have hge : ¬ cmpK p.1 k < 0 := by omega
        go_wp2_with fail
        refine (pfind_1 p k _).mono ?_
        rintro e w2 ⟨rfl, hB2⟩
        have B2 := Lib.hid (below_step hB hB2)
        go_wp2
        go_roundg ((lo + hi) / 2 - lo)
        case measure => omega
        case rel =>
          refine ⟨lo, (lo + hi) / 2, rfl, by rw [show ((lo : Int) + (hi : Int)) / 2 = (((lo + hi) / 2 : Nat) : Int) by omega], by omega, by omega, Nat.le_refl _, B2.out, I1.out, fun t q ht hq => ?_⟩
          cases hbq : bl q.1 k
          · rfl
          · have := kup_mono U.out PP.out hq ht hbq
            rw [hb] at this; cases this
      · have hcmp := cmpK_lt hb
        have hlt0 : cmpK p.1 k < 0 := by rw [hcmp]; decide
        clear hcmp
        go_wp2_with fail
        refine (pfind_1 p k _).mono ?_
        rintro e w2 ⟨rfl, hB2⟩
        have B2 := Lib.hid (below_step hB hB2)
        go_wp2
        go_roundg (hi - ((lo + hi) / 2 + 1))
        case measure => omega
        case rel =>
          refine ⟨(lo + hi) / 2 + 1, hi, by rw [show ((lo : Int) + (hi : Int)) / 2 + 1 = (((lo + hi) / 2 + 1 : Nat) : Int) by omega], rfl, by omega, hin, Nat.le_refl _, B2.out, fun t q ht hq => kup_mono U.out hq PP.out (by omega) hb, I2.out⟩
    · have : hi = lo := by omega
      subst this
      have E2 := Lib.hid (bsearch_end k hi (by rw [HN.out]; exact hin) I1.out I2.out)
      by_cases hnn : hi < n
      · obtain ⟨p, hp⟩ : ∃ p, E[hi]? = some p := ⟨_, List.getElem?_eq_getElem (by rw [HN.out]; omega)⟩
        have PP := Lib.hid hp
        obtain ⟨c1, c2⟩ := C.out _ p hp
        have c1 := (hB.cell (p := ⟨b, off + hi * 2, none⟩) hblt).trans c1
        have c2 := (hB.cell (p := ⟨b, off + hi * 2 + 1, none⟩) hblt).trans c2
        have hbf := I2.out hi p (Nat.le_refl _) hp
        clear hp
        by_cases hk : p.1 = k
        · have hc0 : cmpK p.1 k = 0 := by rw [hk]; exact cmpK_eq k
          have HC := Lib.hid hc0
          have HK := Lib.hid hk
          clear hc0 hk
          go_wp2_with fail
          refine (pfind_1 p k _).mono ?_
          rintro e w2 ⟨rfl, hB2⟩
          rw [HC.out]
          have B2 := Lib.hid (below_step hB hB2)
          go_wp2
          go_ret2
          refine ⟨?_, B2.out⟩
          have hft : fnd = true := F.out.2 ⟨p, by rw [← E2.out]; exact PP.out, HK.out⟩
          rw [hft, ← E2.out]; rfl
        · have hc0 : cmpK p.1 k = 1 := cmpK_gt hbf hk
          have HC := Lib.hid hc0
          clear hc0
          go_wp2_with fail
          refine (pfind_1 p k _).mono ?_
          rintro e w2 ⟨rfl, hB2⟩
          rw [HC.out]
          have B2 := Lib.hid (below_step hB hB2)
          go_wp2
          go_ret2
          refine ⟨?_, B2.out⟩
          have hft : fnd = false := by
            cases hfn : fnd
            · rfl
            · obtain ⟨q, hq, hqk⟩ := F.out.1 hfn
              rw [← E2.out, PP.out] at hq
              cases hq
              exact absurd hqk hk
          rw [hft, ← E2.out]; rfl
      · go_wp2
        go_ret2
        refine ⟨?_, hB⟩
        have hft : fnd = false := by
          cases hfn : fnd
          · rfl
          · obtain ⟨q, hq, _⟩ := F.out.1 hfn
            rw [← E2.out] at hq
            have := (List.getElem?_eq_some_iff.1 hq).1
            rw [HN.out] at this
            omega
        rw [hft, ← E2.out]; rfl

/-- slices.BinarySearchFunc, as find asks it. -/
theorem pbs_ents (s : Value) (E : List Ent) (k : Key) (w : World) (hs : PtsIn w s E) (hu : KUp E) (hbig : E.length ≤ 1000000) (fnd : Bool) (hf : fnd = true ↔ ∃ p, E[plc (ltE k) E]? = some p ∧ p.1 = k) :
    Calls Try.prog 87 #[s, keyV k, .func (.func 88) #[] #[]] w fun e w' => e = .returned (.tuple #[.int .i64 (plc (ltE k) E : Nat), .bool fnd]) ∧ Below w.heap.size w w' := by
  rcases hs.2 with ⟨rfl, h0⟩ | ⟨b, off, cap, rfl, _, hb, hc⟩
  · obtain rfl : E = [] := List.eq_nil_of_length_eq_zero h0
    have hft : fnd = false := by
      cases hfn : fnd
      · rfl
      · obtain ⟨q, hq, _⟩ := hf.1 hfn; simp at hq
    subst hft
    exact (pbs_none k none 0 w).mono fun e w' h => by simpa [plc] using h
  · exact pbs_some b off cap E k w hbig hb hc hu fnd hf

/-- A map with texts as keys and numbers as values. -/
def KidsIn (W : World) (v : Value) (E : List Ent) : Prop := (∃ s, v = .agg #[s] ∧ PtsIn W s E) ∧ KUp E
theorem KidsIn.below {W W' : World} {v : Value} {E : List Ent} (h : KidsIn W v E) (hb : Below W.heap.size W W') : KidsIn W' v E := by
  obtain ⟨⟨s, hv, hs⟩, hu⟩ := h
  exact ⟨⟨s, hv, hs.below hb⟩, hu⟩
theorem KidsIn.form {W : World} {v : Value} {E : List Ent} (h : KidsIn W v E) : ∃ a n c, v = .agg #[.slice a n c] := by
  obtain ⟨⟨s, rfl, hs⟩, _⟩ := h
  rcases hs.2 with ⟨rfl, _⟩ | ⟨b, off, cap, rfl, _⟩
  · exact ⟨_, _, _, rfl⟩
  · exact ⟨_, _, _, rfl⟩

/-- Map.find. -/
theorem kids_find (v : Value) (E : List Ent) (k : Key) (w : World) (h : KidsIn w v E) (hbig : E.length ≤ 1000000) (fnd : Bool) (hf : fnd = true ↔ ∃ p, E[plc (ltE k) E]? = some p ∧ p.1 = k) :
    Calls Try.prog 74 #[v, keyV k] w fun e w' => e = .returned (.tuple #[.int .i64 (plc (ltE k) E : Nat), .bool fnd]) ∧ Below w.heap.size w w' := by
  obtain ⟨a, n, c, rfl⟩ := h.form
  obtain ⟨⟨s, hv, hs⟩, hu⟩ := h
  cases hv
  have hB : ∀ o, Below w.heap.size w (w.alloc o) := fun o => (Below.refl _ _).alloc (Nat.le_refl _) _
  go_enter Try.func74, Try.ntmps74
  go_wp2_with fail
  refine (pbs_ents _ E k _ (hs.below (hB _)) hu hbig fnd hf).mono ?_
  rintro e w' ⟨rfl, hB2⟩
  have B2 := Lib.hid (below_step (hB _) hB2)
  go_wp2
  go_ret2
  exact ⟨rfl, B2.out⟩
theorem kids_Len (v : Value) (E : List Ent) (w : World) (h : KidsIn w v E) :
    Calls Try.prog 77 #[v] w fun e w' => e = .returned (.int .i64 (E.length : Int)) ∧ Below w.heap.size w w' := by
  obtain ⟨⟨s, rfl, hs⟩, hu⟩ := h
  rcases hs.2 with ⟨rfl, h0⟩ | ⟨b, off, cap, rfl, _, _, hc⟩
  · rw [h0]
    go_enter Try.func77, Try.ntmps77
    go_wp2
    go_ret
    exact ⟨rfl, (Below.refl _ _).alloc (Nat.le_refl _) _⟩
  · go_enter Try.func77, Try.ntmps77
    go_wp2
    go_ret
    exact ⟨rfl, (Below.refl _ _).alloc (Nat.le_refl _) _⟩


end Go.Proofs.Ytabgedmocdjkcaa
