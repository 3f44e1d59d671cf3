/- Layer 6: SchedRuns: the walk. -/
import Derived.Test.YtfgkickjjeamgaaRuns6
import Derived.Test.YtfgkickjjeamgaaAll6
import Derived.Test.YtfgkickjjeamgaaArrEq
namespace Go.Proofs.Ytfgkickjjeamgaa
open Go.RowKit

abbrev zeroW : WS := ⟨0, 0, 0, 0, 0, []⟩
abbrev rem0 (T : List (List (Int × Int))) : List (List Ins) := remOf T (List.replicate T.length 0)
theorem slice_only {w w' : World} {k n : Nat} {v : Value} {cs : List Value} {S : Nat → Prop} (h : SliceK w k v n cs) (ho : Only S w w') (hS : ∀ j, v.ownBlock = some j → ¬ S j) : SliceK w' k v n cs := by
  obtain ⟨h0, h1 | ⟨b, off, cap, rfl, h2, h3, h4⟩⟩ := h
  · exact ⟨h0, .inl h1⟩
  · exact ⟨h0, .inr ⟨b, off, cap, rfl, h2, Nat.lt_of_lt_of_le h3 ho.size, fun j v hv => only_cell (h4 j v hv) ho (hS b rfl)⟩⟩
/-- What the program's Run tells of them. -/
structure ProgTo (n Bw : Nat) (F : RS ISt) (w3 : World) (e : Ending) (w4 : World) : Prop where
  ex : ∃ a c dv, e = .returned (.agg #[.slice a F.moves.length c, numV F.calls, numV (F.err (insM n))]) ∧ NumsIn w4 (.slice a F.moves.length c) F.moves ∧ (∀ k, (Value.slice a F.moves.length c).ownBlock = some k → w3.heap.size ≤ k) ∧ WorldIs w4 0 Bw F.a.1 dv ∧ (∀ g, dv.ownBlock = some g → w3.heap.size ≤ g)
  only : Only (· = Bw) w3 w4
theorem runs_told {w2 w3 : World} {Bw : Nat} {T : List (List (Int × Int))} {L : List Int} {pa : Option Addr} {pc : Nat} {v : Value} {vs : List Value} (hB : Below w2.heap.size w2 w3) (hown : w3.ownsRow w2.heap.size 45 1 v T.length vs)
    (hst : ∀ K : Nat → Prop, (∀ k, k < w3.heap.size → k ≠ Bw → v.ownBlock ≠ some k → K k) → ∀ (j : Nat) v l, vs[j]? = some v → T[j]? = some l → StepIs K (insD K Bw) (fun _ => False) w3 v (deedsOf j l))
    (hW : WorldIs w2 0 Bw zeroW (.slice none 0 0)) (hp : ∀ w', Only (· = Bw) w3 w' → ListIn numV w' pa L) (hn : T.length ≤ 8) (hl : ∀ l ∈ T, l.length ≤ 60) (hL : L.length ≤ 500) (F : RS ISt) (hF : F = RS.run (insM T.length) (zeroW, rem0 T) L) :
    Calls Try.prog 8 #[.slice pa L.length pc, v] w3 (ProgTo T.length Bw F w3) := by
  have hbw := hW.blk.lt
  have hz := hB.size
  have hvl : vs.length = T.length := by have := hown.1; simpa using this
  have hW3 : WorldIs w3 0 Bw zeroW (.slice none 0 0) := ⟨hW.blk.below hB hbw, World.ownsRow_nil _ _ _ _⟩
  have hinv : chainInv T.length (fun k => k < w3.heap.size ∧ k ≠ Bw) insJ (InsI (fun k => k < w3.heap.size ∧ k ≠ Bw) Bw) (insD (fun k => k < w3.heap.size ∧ k ≠ Bw) Bw) (fun _ => False) (zeroW, rem0 T) vs w3 := by
    have hr := rem_zero hn hl
    refine ⟨fun _ => False, ⟨by have h9 := hr.1; show 0 + sumLen (remOf T (List.replicate T.length 0)) ≤ 1000; omega, hr.2⟩, fun _ => False.elim, fun _ _ => id, fun _ => False.elim, fun _ hk => hk.1, fun _ => False.elim, ⟨fun h => h.2 rfl, fun h => h.elim id id, fun _ h => (h.elim id id).elim, fun _ hk => hk.1, _, hW3, fun g hg => by simp [Value.ownBlock] at hg⟩, hvl, remOf_len _ _, fun t u ds hu hds => ?_⟩
    have hlt : t < T.length := by have := (List.getElem?_eq_some_iff.1 hu).1; omega
    have hT := List.getElem?_eq_getElem hlt
    have h1 : (rem0 T)[t]? = some ds := hds
    rw [rem_zero_at hT] at h1
    cases h1
    exact hst _ (fun k h1 h2 _ => ⟨h1, h2⟩) t u _ hu hT
  have hconv : ∀ w', Only (fun k => ¬ (k < w3.heap.size ∧ k ≠ Bw)) w3 w' → Only (· = Bw) w3 w' := fun w' ho => ho.mono fun k hk hn => by
    apply Classical.byContradiction
    intro hne
    exact hn ⟨hk, hne⟩
  refine (sched_Run (chain_sys (ins_deeds (fun k => k < w3.heap.size ∧ k ≠ Bw) Bw) T.length insJ insJ_ok insJ_go) hinv (SliceK.of_own hown) (by show T.length ≤ 1000; omega) (pa := pa) (pc := pc) (L := L) (fun w' ho => hp w' (hconv w' ho)) (by omega)).mono ?_
  rw [← hF]
  rintro e w4 ⟨⟨M, mv, vs', rfl, hN, hm, C, hI⟩, ho⟩
  obtain ⟨a, c, rfl, _⟩ := hN.form
  obtain ⟨dv, hW4, hg⟩ := hI.dinv.ex
  refine ⟨⟨a, c, dv, rfl, hN, fun k hk => (hm k hk).2, hW4, fun g hgg => ?_⟩, hconv w4 ho⟩
  have h1 := (hg g hgg).1
  have h2 := hW4.apart hgg
  apply Classical.byContradiction
  intro h3
  exact h1 ⟨by omega, fun e => h2 e.symm⟩

theorem ListIn.only {α : Type} {f : α → Value} {W W' : World} {a : Option Addr} {L : List α} {S : Nat → Prop} (h : ListIn f W a L) (ho : Only S W W') (hS : ∀ k, k < W.heap.size → ¬ S k) : ListIn f W' a L := fun k x hx => by
  obtain ⟨b, off, ha, hlt, hc⟩ := h k x hx
  exact ⟨b, off, ha, Nat.lt_of_lt_of_le hlt ho.size, only_cell hc ho (hS b hlt)⟩
theorem ThrIn.mono {Q Q' : Nat → Prop} {W : World} {a : Option Addr} {T : List (List (Int × Int))} (h : ThrIn Q W a T) (hQ : ∀ k, Q k → Q' k) : ThrIn Q' W a T := fun t l hl => by
  obtain ⟨b, off, a', c', h1, h2, h3, h4⟩ := h t l hl
  refine ⟨b, off, a', c', h1, hQ b h2, h3, fun i p hp => ?_⟩
  obtain ⟨b', off', k1, k2, k3, k4⟩ := h4 i p hp
  exact ⟨b', off', k1, hQ b' k2, k3, k4⟩
theorem WorldIs.form {w : World} {Bw : Nat} {s : WS} {dv : Value} (h : WorldIs w 0 Bw s dv) : ∃ a c, dv = .slice a s.done.length c ∧ ∀ (i : Nat) p, s.done[i]? = some p → ∃ g, a = some ⟨g, 0, none⟩ ∧ w.cell? ⟨g, i * 3, none⟩ = some (numV p.1) ∧ w.cell? ⟨g, i * 3 + 1, none⟩ = some (numV p.2.1) ∧ w.cell? ⟨g, i * 3 + 2, none⟩ = some (numV p.2.2) := by
  rcases h.done.2 with ⟨rfl, h0⟩ | ⟨g, cap, cur, rfl, _⟩
  · refine ⟨none, 0, by rw [h0], fun i p hp => ?_⟩
    have := (List.getElem?_eq_some_iff.1 hp).1
    omega
  · refine ⟨_, _, rfl, fun i p hp => ⟨g, rfl, ?_⟩⟩
    have hc : ∀ (l : List (Int × Int × Int)) (i : Nat) p, l[i]? = some p → (doneCells l)[i * 3]? = some (numV p.1) ∧ (doneCells l)[i * 3 + 1]? = some (numV p.2.1) ∧ (doneCells l)[i * 3 + 2]? = some (numV p.2.2) := fun l => by
      induction l with
      | nil => intro i p h; simp at h
      | cons x l ih =>
        intro i p h
        cases i with
        | zero => simp at h; subst h; simp [doneCells]
        | succ i =>
          have := ih i p (by simpa using h)
          have e : ∀ k, (doneCells (x :: l))[(i + 1) * 3 + k]? = (doneCells l)[i * 3 + k]? := fun k => by
            show ([numV x.1, numV x.2.1, numV x.2.2] ++ doneCells l)[(i + 1) * 3 + k]? = _
            rw [List.getElem?_append_right (by simp; omega)]
            congr 1
            simp; omega
          exact ⟨(e 0).trans this.1, (e 1).trans this.2.1, (e 2).trans this.2.2⟩
    obtain ⟨h1, h2, h3⟩ := hc s.done i p hp
    have hcell := h.done.cells (g := g) rfl
    have k1 := hcell _ _ h1
    have k2 := hcell _ _ h2
    have k3 := hcell _ _ h3
    simp only [addr_add, Nat.zero_add] at k1 k2 k3
    exact ⟨k1, k2, k3⟩

theorem bnd_rounds {n : Nat} : ∀ (j : Nat) {s : RS ISt}, Bnd n s → Bnd n (RS.rounds (insM n) j s)
  | 0, _, h => h
  | j + 1, s, h => by
    show Bnd n (if _ then _ else _)
    split
    · exact h.upto _
    · exact bnd_rounds j (h.upto _)
theorem bnd_run {n : Nat} {a : ISt} (h : Bnd n ⟨a, [], 0⟩) (L : List Int) : Bnd n (RS.run (insM n) a L) := bnd_rounds _ (h.picks L)

set_option maxRecDepth 100000 in
set_option maxHeartbeats 16000000 in
theorem runs6 (pa : Option Addr) (pc : Nat) (L : List Int) (a : Option Addr) (c : Nat) (T : List (List (Int × Int))) (w : World) (hp : ListIn numV w pa L) (hT : ThrIn (fun k => k < w.heap.size) w a T) :
    Calls Try.prog 3 #[.slice pa L.length pc, .slice a T.length c] w fun e w' => e = .returned (.bool true) ∧ Below w.heap.size w w' := by
  have H := Lib.hid (And.intro hp hT)
  clear hp hT
  go_enter Try.func3, Try.ntmps3
  go_wp2_with fail
  refine (awake6 w).mono ?_
  rintro e w1 ⟨rfl, hB1⟩
  have o1 : Only (fun _ => False) w w1 := Only.of_below hB1 _
  have H1 := Lib.hid (And.intro hB1 (And.intro (H.out.1.below hB1) (H.out.2.only o1 (fun _ _ => id))))
  clear H hB1 o1
  go_wp2_with fail
  refine (great6 H1.out.2.2 pa pc L).mono ?_
  rintro e w' ⟨⟨b, rfl, hb⟩, rfl⟩
  cases b
  · obtain ⟨hL, hn, hl⟩ := hb rfl
    have HL := Lib.hid hl
    clear hl hb
    go_wp2_with fail
    have F2 : Hid (WorldIs ((w1.alloc (.cells #[.int .i64 0, .int .i64 0, .int .i64 0, .int .i64 0, .int .i64 0, .slice none 0 0] 30)).alloc (.cells #[.int .i64 0, .int .i64 0, .int .i64 0, .int .i64 0, .int .i64 0, .slice none 0 0] 30)) 0 w1.heap.size zeroW (.slice none 0 0) ∧
        WorldIs ((w1.alloc (.cells #[.int .i64 0, .int .i64 0, .int .i64 0, .int .i64 0, .int .i64 0, .slice none 0 0] 30)).alloc (.cells #[.int .i64 0, .int .i64 0, .int .i64 0, .int .i64 0, .int .i64 0, .slice none 0 0] 30)) 0 (w1.heap.size + 1) zeroW (.slice none 0 0) ∧
        Below w1.heap.size w1 ((w1.alloc (.cells #[.int .i64 0, .int .i64 0, .int .i64 0, .int .i64 0, .int .i64 0, .slice none 0 0] 30)).alloc (.cells #[.int .i64 0, .int .i64 0, .int .i64 0, .int .i64 0, .int .i64 0, .slice none 0 0] 30)) ∧
        ((w1.alloc (.cells #[.int .i64 0, .int .i64 0, .int .i64 0, .int .i64 0, .int .i64 0, .slice none 0 0] 30)).alloc (.cells #[.int .i64 0, .int .i64 0, .int .i64 0, .int .i64 0, .int .i64 0, .slice none 0 0] 30)).heap.size = w1.heap.size + 1 + 1) := Lib.hid (by
      refine ⟨⟨(Blk.new (l := [numV 0, numV 0, numV 0, numV 0, numV 0, .slice none 0 0])).alloc _, World.ownsRow_nil _ _ _ _⟩, ⟨?_, World.ownsRow_nil _ _ _ _⟩, ((Below.refl _ _).alloc (Nat.le_refl _) _).alloc (by simp) _, by simp⟩
      have := Blk.new (t := 30) (W := w1.alloc (.cells #[.int .i64 0, .int .i64 0, .int .i64 0, .int .i64 0, .int .i64 0, .slice none 0 0] 30)) (l := [numV 0, numV 0, numV 0, numV 0, numV 0, .slice none 0 0])
      simpa using this)
    generalize (w1.alloc (.cells #[.int .i64 0, .int .i64 0, .int .i64 0, .int .i64 0, .int .i64 0, .slice none 0 0] 30)).alloc (.cells #[.int .i64 0, .int .i64 0, .int .i64 0, .int .i64 0, .int .i64 0, .slice none 0 0] 30) = w2 at *
    have hz2 := F2.out.2.2.2
    have hz1 := H1.out.1.size
    have o2 : Only (fun _ => False) w1 w2 := Only.of_below F2.out.2.2.1 _
    have T2 := Lib.hid (H1.out.2.2.only o2 (fun _ _ => id))
    have P2 := Lib.hid (H1.out.2.1.below F2.out.2.2.1)
    clear o2
    refine (chains_any (w := w2) (Bw := w1.heap.size) (c := c) (T2.out.mono fun k hk => ⟨by omega, by omega⟩) (by omega) (by omega) (fun l hl => by have := HL.out l hl; omega)).mono ?_
    rintro e w3 ⟨v, vs, rfl, hown3, hB3, hst3⟩
    have hz3 := hB3.size
    have o3 : Only (fun _ => False) w2 w3 := Only.of_below hB3 _
    have T3 := Lib.hid (T2.out.only o3 (fun _ _ => id))
    have P3 := Lib.hid (P2.out.below hB3)
    have X3 := Lib.hid (F2.out.2.1.only o3 id (fun _ _ => id))
    have R3 := Lib.hid (runs_told (pa := pa) (pc := pc) hB3 hown3 hst3 F2.out.1 (fun w' ho => fun k x hx => by
      obtain ⟨b, off, ha, hlt, hc⟩ := H1.out.2.1 k x hx
      obtain ⟨b2, off2, ha2, hlt2, hc2⟩ := P3.out k x hx
      rw [ha] at ha2
      cases ha2
      exact ⟨b, off, ha, Nat.lt_of_lt_of_le hlt2 ho.size, only_cell hc2 ho (by omega)⟩) hn HL.out hL _ rfl)
    have B3 := Lib.hid hB3
    clear hown3 hst3 hB3 o3
    go_wp2_with fail
    refine R3.out.mono ?_
    clear R3
    generalize hFF : RS.run (insM T.length) (zeroW, rem0 T) L = F
    rintro e w4 ⟨⟨ma, mc, dv, rfl, hN4, hmb4, hW4, hdb4⟩, ho4⟩
    have hz4 := ho4.size
    have K4 := Lib.hid (And.intro hN4 (And.intro hmb4 (And.intro hW4 (And.intro hdb4 ho4))))
    clear hN4 hmb4 hW4 hdb4 ho4
    go_wp2_with fail
    have bt5 : Blk 33 (w4.alloc (.cells #[.slice ma F.moves.length mc, .int .i64 F.calls, .int .i64 (F.err (insM T.length))] 33)) w4.heap.size [.slice ma F.moves.length mc, .int .i64 F.calls, .int .i64 (F.err (insM T.length))] := Blk.new (l := [.slice ma F.moves.length mc, .int .i64 F.calls, .int .i64 (F.err (insM T.length))])
    have o5 : Only (fun _ => False) w4 (w4.alloc (.cells #[.slice ma F.moves.length mc, .int .i64 F.calls, .int .i64 (F.err (insM T.length))] 33)) := (Only.refl _ _).alloc _
    have hz5 := o5.size
    generalize w4.alloc (.cells #[.slice ma F.moves.length mc, .int .i64 F.calls, .int .i64 (F.err (insM T.length))] 33) = w5 at *
    have T5 := (T3.out.only K4.out.2.2.2.2 (fun k hk => by omega)).only o5 (fun _ _ => id)
    have X5 := (X3.out.only K4.out.2.2.2.2 (by omega) (fun g hg => by simp [Value.ownBlock] at hg)).only o5 id (fun _ _ => id)
    have hr := rem_zero hn HL.out
    have R5 := Lib.hid (ref_Run (w := w5) (Bx := w1.heap.size + 1) (c := c) (pa := pa) (pc := pc) (L := L) (T5.mono fun k hk => ⟨by omega, by omega⟩) (fun w' ho => fun k x hx => by
      obtain ⟨b, off, ha, hlt, hc⟩ := H1.out.2.1 k x hx
      obtain ⟨b2, off2, ha2, hlt2, hc2⟩ := P3.out k x hx
      rw [ha] at ha2
      cases ha2
      have h1 := only_cell hc2 K4.out.2.2.2.2 (by omega)
      have h2 := only_cell h1 o5 id
      exact ⟨b, off, ha, by have := ho.size; omega, only_cell h2 ho (by omega)⟩) X5 hn HL.out hL ⟨(zeroW, rem0 T), [], 0⟩ rfl
      ⟨by have h9 := hr.1; show 0 + sumLen (remOf T (List.replicate T.length 0)) ≤ 1000; omega, rfl, remOf_len _ _⟩ F hFF.symm)
    have K5 := Lib.hid (And.intro bt5 o5)
    clear bt5 o5 T5 X5
    refine R5.out.mono ?_
    clear R5
    rintro e w6 ⟨⟨mx, dx, rfl, hN6, hW6, hdb6⟩, ho6⟩
    obtain ⟨xa, xc, rfl, _⟩ := hN6.form
    have hz6 := ho6.size
    have bt6 := K5.out.1.only ho6 (by omega)
    have W6 := (K4.out.2.2.1.only K5.out.2 id (fun _ _ => id)).only ho6 (by omega) (fun g hg => by have := K4.out.2.2.2.1 g hg; omega)
    have N6 := slice_only (slice_only K4.out.1 K5.out.2 (fun _ _ => id)) ho6 (fun g hg => by have := K4.out.2.1 g hg; omega)
    have B6 : Below w.heap.size w w6 := by
      have h1 : Below w.heap.size w w3 := (H1.out.1.trans (F2.out.2.2.1.mono hz1)).trans (B3.out.mono (by omega))
      have h2 := K4.out.2.2.2.2.below_step (n := w.heap.size) (by omega) h1 (fun i hi e => by omega)
      have h3 := K5.out.2.below_step (n := w.heap.size) (by omega) h2 (fun i hi => id)
      exact ho6.below_step (by omega) h3 (fun i hi e => by omega)
    obtain ⟨da, dc, rfl, hd1⟩ := W6.form
    obtain ⟨ya, yc, rfl, hd2⟩ := hW6.form
    have t0 := bt6.at (o := 0) rfl
    have t1 := bt6.at (o := 1) rfl
    have t2 := bt6.at (o := 2) rfl
    have u0 := W6.blk.at (o := 0) rfl
    have u1 := W6.blk.at (o := 1) rfl
    have u2 := W6.blk.at (o := 2) rfl
    have u3 := W6.blk.at (o := 3) rfl
    have u4 := W6.blk.at (o := 4) rfl
    have u5 := W6.blk.at (o := 5) rfl
    have x0 := hW6.blk.at (o := 0) rfl
    have x1 := hW6.blk.at (o := 1) rfl
    have x2 := hW6.blk.at (o := 2) rfl
    have x3 := hW6.blk.at (o := 3) rfl
    have x4 := hW6.blk.at (o := 4) rfl
    have x5 := hW6.blk.at (o := 5) rfl
    have hq := neq_locks F.a.1.l0 F.a.1.l1 F.a.1.l2 F.a.1.l3
    have hbnd : Bnd T.length F := by
      rw [← hFF]
      exact bnd_run ⟨by have h9 := hr.1; show 0 + sumLen (remOf T (List.replicate T.length 0)) ≤ 1000; omega, rfl, remOf_len _ _⟩ L
    have hmov : F.moves.length ≤ 1000000 := by have := hbnd.sum; omega
    have hdon : F.a.1.done.length ≤ 1000000 := by have := hbnd.done; omega
    clear hbnd
    have Q := Lib.hid (fun n => ref_Ints_q N6 hN6 hmov hmov n)
    have E6 := Lib.hid (And.intro hd1 (And.intro hd2 B6))
    clear hN6 hW6 hdb6 ho6 bt6 W6 N6 B6 hd1 hd2
    go_wp2_with fail
    go_quiet ((go_at_call 11; exact Q.out _))
    clear Q t0 t1 t2 u0 u1 u2 u3 u4 x0 x1 x2 x3 x4 hq
    go_wp2_with fail
    go_loopw [11] (fun i wr => ∃ (k n : Nat), k ≤ F.a.1.done.length ∧ i = .int .i64 k ∧ wr = w6.drewN n) (fun i _ => F.a.1.done.length - (intOf i).toNat)
    case atStart => exact ⟨0, _, Nat.zero_le _, rfl, rfl⟩
    case round =>
      obtain ⟨k, n, hk, rfl, rfl⟩ := hrel
      have u5n : (w6.drewN n).cell? ⟨w1.heap.size, 5, none⟩ = some (.slice da F.a.1.done.length dc) := u5
      by_cases hlt : k < F.a.1.done.length
      · obtain ⟨g1, rfl, a1, a2, a3⟩ := E6.out.1 k _ (List.getElem?_eq_getElem hlt)
        obtain ⟨g2, rfl, b1, b2, b3⟩ := E6.out.2.1 k _ (List.getElem?_eq_getElem hlt)
        have x5n : (w6.drewN n).cell? ⟨w1.heap.size + 1, 5, none⟩ = some (.slice (some ⟨g2, 0, none⟩) F.a.1.done.length yc) := x5
        have hq := neq_mark F.a.1.done[k].1 F.a.1.done[k].2.1 F.a.1.done[k].2.2
        generalize F.a.1.done[k] = p at *
        change (w6.drewN n).cell? _ = _ at a1 a2 a3 b1 b2 b3
        clear u5 x5
        generalize hw7 : w6.drewN n = w7 at *
        go_wp2_with fail
        go_quiet (fail)
        go_wp2
        go_roundw
        case rel => exact ⟨k + 1, _, by omega, by go_num, by rw [← hw7, drewN_twice]⟩
        case measure => simp [intOf]; omega
      · obtain rfl : k = F.a.1.done.length := by omega
        go_wp2
        go_ret
        exact ⟨rfl, below_draws E6.out.2.2 n⟩
  · clear hb
    go_wp2
    go_ret
    exact ⟨rfl, H1.out.1⟩

end Go.Proofs.Ytfgkickjjeamgaa
