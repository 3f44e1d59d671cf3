/- Maps of pointers: Drop, Get, All. Made by tools/gen_ptr12.py. -/
import Derived.RangeFuncNested
import Derived.RangeFuncBound
import Derived.RangeFuncCalls
import Derived.RangeFuncLeaves
import Derived.RangeFuncBox
import Derived.Shelf.Abstract
import Derived.Shelf.RegionOpen
import Derived.OwnWalkIn
import Derived.TacticsInMore
import Derived.LoopNIn
import Derived.LoopIn
import Derived.IntWalk
import Derived.Test.YtabgedmocdjkcaaMap12
namespace Go.Proofs.Ytabgedmocdjkcaa
open Go.RowKit Go.Shelf

set_option maxRecDepth 100000 in
set_option maxHeartbeats 2000000 in
theorem kids_Drop (v : Value) (E : List Ent) (k : Key) (w : World) (h : KidsIn w v E) (hbig : E.length ≤ 100000) :
    Calls Try.prog 61 #[v, keyV k] w fun e w' => ∃ r, e = .returned r ∧ KidsIn w' r (dropE k E) ∧ Below w.heap.size w w' ∧ Apart w.heap.size v r := by
  have HM := Lib.hid h
  obtain ⟨a, n, c, rfl⟩ := h.form
  obtain ⟨⟨s, hv, hs⟩, hu⟩ := h
  cases hv
  have hp := plc_le (ltE k) E
  have HU : Hid (KUp (dropE k E)) := kup_dropE hu
  rcases place_facts k E hu with ⟨u, r, g1, g2, g3, g4, g5⟩ | ⟨g1, g2, g3, g4⟩
  · have hpl : plc (ltE k) E < E.length := by
      have := congrArg List.length g1
      rw [List.length_drop, List.length_cons] at this; omega
    rcases hs.2 with ⟨_, h0⟩ | ⟨b, off, cap, hv, hcap, hb, hc⟩
    · omega
    cases hv
    have hfd := fun W hM => kids_find (.agg #[.slice (some ⟨b, off, none⟩) E.length c]) E k W hM (by omega) true (by
      simp only [true_iff]
      refine ⟨(k, u), ?_, rfl⟩
      have := congrArg (fun l => l[0]?) g1
      simpa using this)
    have HP := Lib.hid (show E.take (plc (ltE k) E) ++ E.drop (plc (ltE k) E + 1) = dropE k E by rw [g3, g5])
    clear g1 g2 g3 g4 g5
    by_cases hl : plc (ltE k) E + 1 = E.length
    all_goals
      go_enter Try.func61, Try.ntmps61
      go_wp2_with fail
      obtain ⟨W2, hW, b2, z2, r2, f2⟩ := two w (.cells #[.slice (some ⟨b, off, none⟩) E.length c] 81) (.slice none 0 0) 81
      have c0 : W2.cell? ⟨w.heap.size, 0, none⟩ = some (.slice (some ⟨b, off, none⟩) E.length c) := by
        rw [← hW, World.cell?_alloc_lt _ _ _ (by simp)]; simp
      rw [hW]
      refine (hfd W2 (HM.out.below b2)).mono ?_
      rintro e w3 ⟨rfl, hB3⟩
      have c0 := (hB3.cell (p := ⟨w.heap.size, 0, none⟩) (by show w.heap.size < W2.heap.size; omega)).trans c0
      have r3 := (hB3.cell (p := ⟨w.heap.size + 1, 0, none⟩) (by show w.heap.size + 1 < W2.heap.size; omega)).trans r2
      have f3 := (hB3.frozen (p := ⟨w.heap.size + 1, 0, none⟩) (by show w.heap.size + 1 < W2.heap.size; omega)).trans f2
      have hz := hB3.size
      have B3 := Lib.hid (b2.trans (hB3.mono b2.size))
      clear hW b2 hB3 r2 f2
      go_wp2_with fail
      first
        | refine (repl_pts_last b off E.length c (plc (ltE k) E) (E.flatMap encQ) w3 (pts_len E) hcap (by omega) (hc.below B3.out hb) (by omega) (pt_one E) hl).mono ?_
        | refine (repl_pts_cut b off E.length c (plc (ltE k) E) (E.flatMap encQ) w3 (pts_len E) hcap (by omega) (hc.below B3.out hb) (by omega) (pt_one E) (by omega)).mono ?_
      rintro e w5 ⟨N, rfl, hN, hB5, hg5, hc5⟩
      rw [cut_pts, HP.out] at hc5
      have hN' : N = (dropE k E).length := by rw [← HP.out, hN]; simp; omega
      have k1 := (hB5.cell (p := ⟨w.heap.size + 1, 0, none⟩) (by show w.heap.size + 1 < w3.heap.size; omega)).trans r3
      have k2 := (hB5.frozen (p := ⟨w.heap.size + 1, 0, none⟩) (by show w.heap.size + 1 < w3.heap.size; omega)).trans f3
      have B5 := Lib.hid (below_step B3.out hB5)
      have C5 := Lib.hid hc5
      have HN := Lib.hid hN'
      clear hc5 hB5 hN hN'
      go_wp2
      refine bodyPost_ret (by simp [results, Try.f61, go_sem, k1]; first | rfl | exact ⟨rfl, rfl⟩) rfl ⟨_, rfl, ⟨⟨_, rfl, ?_⟩, HU.out⟩, B5.out.setCell (p := ⟨w.heap.size + 1, 0, none⟩) (by show w.heap.size ≤ w.heap.size + 1; omega) _, .inr ⟨_, _, by omega, rfl⟩⟩
      exact pts_made (M := dropE k E) HN.out hg5 C5.out ⟨w.heap.size + 1, 0, none⟩ _ (by show w.heap.size + 1 ≠ w3.heap.size; omega)
  · have hfd := fun W hM => kids_find (.agg #[.slice a n c]) E k W hM (by omega) false (by
      simp only [Bool.false_eq_true, false_iff]
      rintro ⟨p, hp1, hp2⟩
      exact g1 p hp1 hp2)
    have HD : Hid (KidsIn w (.agg #[.slice a n c]) (dropE k E)) := by
      show KidsIn _ _ _
      rw [g3]; exact HM.out
    clear g1 g2 g3 g4
    go_enter Try.func61, Try.ntmps61
    go_wp2_with fail
    obtain ⟨W2, hW, b2, z2, r2, f2⟩ := two w (.cells #[.slice a n c] 81) (.slice none 0 0) 81
    have c0 : W2.cell? ⟨w.heap.size, 0, none⟩ = some (.slice a n c) := by
      rw [← hW, World.cell?_alloc_lt _ _ _ (by simp)]; simp
    rw [hW]
    refine (hfd W2 (HM.out.below b2)).mono ?_
    rintro e w3 ⟨rfl, hB3⟩
    have c0 := (hB3.cell (p := ⟨w.heap.size, 0, none⟩) (by show w.heap.size < W2.heap.size; omega)).trans c0
    have r3 := (hB3.cell (p := ⟨w.heap.size + 1, 0, none⟩) (by show w.heap.size + 1 < W2.heap.size; omega)).trans r2
    have f3 := (hB3.frozen (p := ⟨w.heap.size + 1, 0, none⟩) (by show w.heap.size + 1 < W2.heap.size; omega)).trans f2
    have B3 := Lib.hid (b2.trans (hB3.mono b2.size))
    clear hW b2 hB3 r2 f2
    go_wp2
    refine bodyPost_ret (by simp [results, Try.f61, go_sem, r3]; try rfl) rfl ⟨_, rfl, ?_, B3.out.setCell (p := ⟨w.heap.size + 1, 0, none⟩) (by show w.heap.size ≤ w.heap.size + 1; omega) _, .inl rfl⟩
    exact HD.out.below (B3.out.setCell (p := ⟨w.heap.size + 1, 0, none⟩) (by show w.heap.size ≤ w.heap.size + 1; omega) _)

/-- What Get tells. -/
def gotP (o : Option Int) : Value := .tuple #[(match o with | none => .pointer none | some x => ptrV x), .bool o.isSome]

set_option maxRecDepth 100000 in
theorem kids_Get (v : Value) (E : List Ent) (k : Key) (w : World) (h : KidsIn w v E) (hbig : E.length ≤ 100000) :
    Calls Try.prog 57 #[v, keyV k] w fun e w' => e = .returned (gotP (getE k E)) ∧ Below w.heap.size w w' := by
  have HM := Lib.hid h
  obtain ⟨a, n, c, rfl⟩ := h.form
  obtain ⟨⟨s, hv, hs⟩, hu⟩ := h
  cases hv
  have hB : ∀ o, Below w.heap.size w (w.alloc o) := fun o => (Below.refl _ _).alloc (Nat.le_refl _) _
  rcases place_facts k E hu with ⟨u, r, g1, g2, g3, g4, g5⟩ | ⟨g1, g2, g3, g4⟩
  · have hat : E[plc (ltE k) E]? = some (k, u) := by
      have := congrArg (fun l => l[0]?) g1
      simpa using this
    have hpl : plc (ltE k) E < E.length := (List.getElem?_eq_some_iff.1 hat).1
    rcases hs.2 with ⟨_, h0⟩ | ⟨b, off, cap, hv, hcap, hb, hc⟩
    · omega
    cases hv
    have hfd := fun W hM => kids_find (.agg #[.slice (some ⟨b, off, none⟩) E.length c]) E k W hM (by omega) true (by simp only [true_iff]; exact ⟨(k, u), hat, rfl⟩)
    have cu := hc _ _ (pts_at E _ _ hat).2
    rw [← Nat.add_assoc] at cu
    rw [g4]
    clear g1 g2 g3 g4 g5 hat
    go_enter Try.func57, Try.ntmps57
    go_wp2_with fail
    refine (hfd _ (HM.out.below (hB _))).mono ?_
    rintro e w3 ⟨rfl, hB3⟩
    have c0 := (hB3.cell (p := ⟨w.heap.size, 0, none⟩) (by simp)).trans (show (w.alloc (.cells #[.slice (some ⟨b, off, none⟩) E.length c] 81)).cell? ⟨w.heap.size, 0, none⟩ = some (.slice (some ⟨b, off, none⟩) E.length c) by simp)
    have B3 := Lib.hid (below_step (hB _) hB3)
    have cu := (B3.out.cell (p := ⟨b, off + plc (ltE k) E * 2 + 1, none⟩) hb).trans cu
    clear hB3
    go_wp2
    go_ret2
    exact ⟨rfl, B3.out⟩
  · have hfd := fun W hM => kids_find (.agg #[.slice a n c]) E k W hM (by omega) false (by
      simp only [Bool.false_eq_true, false_iff]
      rintro ⟨p, hp1, hp2⟩
      exact g1 p hp1 hp2)
    rw [g4]
    clear g1 g2 g3 g4
    go_enter Try.func57, Try.ntmps57
    go_wp2_with fail
    refine (hfd _ (HM.out.below (hB _))).mono ?_
    rintro e w3 ⟨rfl, hB3⟩
    have B3 := Lib.hid (below_step (hB _) hB3)
    clear hB3
    go_wp2
    go_ret2
    exact ⟨rfl, B3.out⟩

theorem kids_All (s : Value) (E : List Ent) (w : World) (h : PtsIn w s E) :
    Calls Try.prog 52 #[.agg #[s]] w fun e w' => e = .returned (.func (.func 71) #[] #[.pointer (some ⟨w.heap.size, 0, none⟩)]) ∧ w' = w.alloc (.cells #[s] 81) := by
  rcases h.2 with ⟨rfl, h0⟩ | ⟨b, off, cap, rfl, _, _, hc⟩
  all_goals
    go_enter Try.func52, Try.ntmps52
    go_wp2
    go_ret
    exact ⟨rfl, rfl⟩

abbrev encK (p : Ent) : Array Value := #[keyV p.1, ptrV p.2]
/-- A slice of entries that lies below n. -/
def LiesP (W : World) (n₀ : Nat) (v : Value) (E : List Ent) : Prop :=
  (v = .slice none 0 0 ∧ E = []) ∨ ∃ b off cap, v = .slice (some ⟨b, off, none⟩) E.length cap ∧ b < n₀ ∧ CellsAt W b off (E.flatMap encQ)
theorem PtsIn.lies {W : World} {v : Value} {E : List Ent} (h : PtsIn W v E) : LiesP W W.heap.size v E := by
  rcases h.2 with ⟨hv, h0⟩ | ⟨b, off, cap, hv, _, hb, hc⟩
  · exact .inl ⟨hv, List.eq_nil_of_length_eq_zero h0⟩
  · exact .inr ⟨b, off, cap, hv, hb, hc⟩
theorem LiesP.below {W W' : World} {n₀ : Nat} {v : Value} {E : List Ent} (h : LiesP W n₀ v E) (hb : Below n₀ W W') : LiesP W' n₀ v E := by
  rcases h with h | ⟨b, off, cap, hv, hlt, hc⟩
  · exact .inl h
  · exact .inr ⟨b, off, cap, hv, hlt, hc.below hb hlt⟩
theorem LiesP.mono {W : World} {n₀ n₁ : Nat} {v : Value} {E : List Ent} (h : LiesP W n₀ v E) (hn : n₀ ≤ n₁) : LiesP W n₁ v E := by
  rcases h with h | ⟨b, off, cap, hv, hlt, hc⟩
  · exact .inl h
  · exact .inr ⟨b, off, cap, hv, by omega, hc⟩

set_option maxRecDepth 100000 in
set_option maxHeartbeats 1000000 in
theorem kids_All1 (n : Nat) (hn : 1 ≤ n) (l Bn n₀ : Nat) (s : Value) (E : List Ent) (hbig : E.length ≤ 1000000) (J Jx : List Ent → World → Prop) (W : World) (hn0 : n₀ ≤ W.heap.size) (hJ : AbidesFrom W.heap.size J)
    (hY : ∀ pre x W1, J pre W1 → pre.length < E.length → YieldAt Fence.wide (n - 1) Try.prog l (encK x) W1 fun e W' =>
      (e = .returned (.bool true) ∧ J (pre ++ [x]) W' ∧ Below n₀ W1 W') ∨ (e = .returned (.bool false) ∧ Jx (pre ++ [x]) W'))
    (hBn : W.cell? ⟨Bn, 0, none⟩ = some s) (hs : LiesP W n₀ s E) (h0 : J [] W) :
    CallsIn Fence.wide n Try.prog 71 #[.func (.yield l) #[] #[], .pointer (some ⟨Bn, 0, none⟩)] W fun e W' => (∃ v, e = .returned v) ∧
      ((∃ ys, ys = E ∧ J ys W') ∨ (∃ pre, pre <+: E ∧ Jx pre W')) := by
  rcases hs with ⟨rfl, rfl⟩ | ⟨b, off, cap, rfl, hlt, hc⟩
  · refine callsIn_of_wp Try.func71 rfl trivial ?_ rfl
    simp only [Try.ntmps71, List.size_toArray, List.length_cons, List.length_nil, Nat.reduceAdd, Nat.reduceSub, Array.replicate_succ, Array.replicate_zero, List.push_toArray, List.append_toArray, List.nil_append, List.cons_append]
    gi_wp2
    gi_loopw [8] (fun i wr => i = .int .i64 0 ∧ J [] wr) (fun _ _ => 0)
    case atStart => exact ⟨rfl, h0⟩
    case round =>
      obtain ⟨rfl, hJs⟩ := hrel
      gi_wp2
      go_end0
      exact ⟨⟨_, rfl⟩, .inl ⟨[], rfl, hJs⟩⟩
  · have C : Hid (∀ i p, E[i]? = some p → W.cell? ⟨b, off + i * 2, none⟩ = some (keyV p.1) ∧ W.cell? ⟨b, off + i * 2 + 1, none⟩ = some (ptrV p.2)) := fun i p hp => by
      have := pts_at E i p hp
      exact ⟨hc _ _ this.1, by rw [Nat.add_assoc]; exact hc _ _ this.2⟩
    clear hc
    refine callsIn_of_wp Try.func71 rfl trivial ?_ rfl
    simp only [Try.ntmps71, List.size_toArray, List.length_cons, List.length_nil, Nat.reduceAdd, Nat.reduceSub, Array.replicate_succ, Array.replicate_zero, List.push_toArray, List.append_toArray, List.nil_append, List.cons_append]
    gi_wp2
    gi_loopw [8] (fun i wr => ∃ k : Nat, k ≤ E.length ∧ i = .int .i64 k ∧ J (E.take k) wr ∧ Below n₀ W wr) (fun i _ => E.length - (intOf i).toNat)
    case atStart => exact ⟨0, Nat.zero_le _, rfl, h0, Below.refl _ _⟩
    case round =>
      obtain ⟨k, hk, rfl, hJs, hB⟩ := hrel
      by_cases hkl : k < E.length
      · obtain ⟨p, hp⟩ : ∃ p, E[k]? = some p := ⟨_, List.getElem?_eq_getElem hkl⟩
        have T : Hid (E.take (k + 1) = E.take k ++ [p]) := by
          show _ = _
          obtain ⟨_, rfl⟩ := List.getElem?_eq_some_iff.1 hp
          exact List.take_succ_eq_append_getElem hkl
        obtain ⟨c1, c2⟩ := C.out k p hp
        have c1 := (hB.cell (p := ⟨b, off + k * 2, none⟩) hlt).trans c1
        have c2 := (hB.cell (p := ⟨b, off + k * 2 + 1, none⟩) hlt).trans c2
        clear hp
        have hbs := hB.size
        have hJa := hJ _ _ _ none hJs (World.grownBy_alloc wr (.cells #[keyV p.1, ptrV p.2] 106) none) (fun r e => by cases e)
        have hBa : Below n₀ W (wr.alloc (.cells #[keyV p.1, ptrV p.2] 106)) := hB.alloc (by omega) _
        obtain ⟨fn, tmps, assign, body, hy, hR⟩ := hY (E.take k) p _ hJa (by simp; omega)
        dsimp only [encK] at hy
        gi_wp2
        refine hR.mono ?_
        rintro e W3 (⟨rfl, hJ3, hB3⟩ | ⟨rfl, hJx3⟩)
        · gi_wp2
          go_roundw
          case rel =>
            refine ⟨k + 1, by omega, by go_num, ?_, hBa.trans hB3⟩
            rw [T.out]; exact hJ3
          case measure => simp [intOf]; omega
        · gi_wp2
          refine bodyPost_ret (results_none rfl _ _ _) rfl ?_
          refine ⟨⟨_, rfl⟩, .inr ⟨E.take k ++ [p], ?_, hJx3⟩⟩
          rw [← T.out]; exact List.take_prefix _ _
      · gi_wp2
        go_end0
        refine ⟨⟨_, rfl⟩, .inl ⟨E, rfl, ?_⟩⟩
        rw [List.take_of_length_le (by omega)] at hJs; exact hJs

theorem kids_All_stops (n : Nat) (hn : 1 ≤ n) (Bn n₀ : Nat) (s : Value) (E : List Ent) (hbig : E.length ≤ 1000000) (w : World) (hBn : Bn < w.heap.size) (hn0 : n₀ ≤ w.heap.size) (hc : w.cell? ⟨Bn, 0, none⟩ = some s) (hs : LiesP w n₀ s E) :
    SeqStopsK Fence.wide n Try.prog 71 #[.pointer (some ⟨Bn, 0, none⟩)] encK (Below n₀) (fun ys => ys = E) (fun pre => pre <+: E) E.length w := fun l J Jx W hW hJ _ hY h0 =>
  kids_All1 n hn l Bn n₀ s E hbig J Jx W (Nat.le_trans hn0 hW.size) hJ hY ((hW.cell (p := ⟨Bn, 0, none⟩) hBn).trans hc) (hs.below (hW.mono hn0)) h0


end Go.Proofs.Ytabgedmocdjkcaa
