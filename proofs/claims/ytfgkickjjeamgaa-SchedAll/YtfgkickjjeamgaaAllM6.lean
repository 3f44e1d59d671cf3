/- Layer 6: SchedAll: its memory. -/
import Derived.Test.YtfgkickjjeamgaaAllPlain6
import Derived.Deep.Onto
namespace Go.Proofs.Ytfgkickjjeamgaa
open Go.RowKit

theorem infoInstr : (Try.prog.info? 43).map (fun i => (i.zero, i.size, i.bytes)) = some (some (.agg #[numV 0, numV 0]), 2, 16) := by kernel_rfl
theorem infoInstrs : (Try.prog.info? 41).map (fun i => (i.zero, i.size, i.bytes)) = some (some (.slice none 0 0), 1, 24) := by kernel_rfl
def insCells (l : List (Int × Int)) : List Value := l.flatMap fun p => [numV 0, numV p.2]
theorem insCells_snoc (l : List (Int × Int)) (p : Int × Int) : insCells (l ++ [p]) = insCells l ++ [numV 0, numV p.2] := by simp [insCells]
theorem insCells_at : ∀ (l : List (Int × Int)) (i : Nat) p, l[i]? = some p → (insCells l)[i * 2]? = some (numV 0) ∧ (insCells l)[i * 2 + 1]? = some (numV p.2) := fun l => by
  induction l with
  | nil => intro i p h; simp at h
  | cons x l ih =>
    intro i p h
    cases i with
    | zero => simp at h; subst h; simp [insCells]
    | succ i =>
      have := ih i p (by simpa using h)
      have e : ∀ k, (insCells (x :: l))[(i + 1) * 2 + k]? = (insCells l)[i * 2 + k]? := fun k => by
        show ([numV 0, numV x.2] ++ insCells l)[(i + 1) * 2 + k]? = _
        rw [List.getElem?_append_right (by simp; omega)]
        congr 1
        simp; omega
      exact ⟨(e 0).trans this.1, (e 1).trans this.2⟩
theorem own_form {w : World} {base : Nat} {e : TypeId} {size : Nat} {v : Value} {n : Nat} {xs : List Value} (h : w.ownsRow base e size v n xs) : ∃ a c, v = .slice a n c ∧ ∀ i, i < n → ∃ g, a = some ⟨g, 0, none⟩ := by
  rcases h.2 with ⟨rfl, rfl⟩ | ⟨g, cap, cur, rfl, _⟩
  · exact ⟨none, 0, rfl, fun i hi => by omega⟩
  · exact ⟨_, cap, rfl, fun i _ => ⟨g, rfl⟩⟩

/-- While a thread is written anew. -/
structure CopySt (wr : World) (l : List (Int × Int)) (k : Nat) (lv : Value) (wi : World) : Prop where
  below : Below wr.heap.size wr wi
  row : wi.ownsRow wr.heap.size 43 2 lv k (insCells (l.take k))
theorem CopySt.more {wr : World} {l : List (Int × Int)} {k : Nat} {lv lv' : Value} {wi w2 : World} {ob : Obj} {p : Int × Int} (h : CopySt wr l k lv wi) (hp : l[k]? = some p) (hown : w2.ownsRow wr.heap.size 43 2 lv' (k + 1) (insCells (l.take k) ++ [numV 0, numV p.2])) (hg : (wi.alloc ob).grownBy w2 lv.ownBlock) : CopySt wr l (k + 1) lv' w2 := by
  have hs := h.below.size
  obtain ⟨hlt, rfl⟩ := List.getElem?_eq_some_iff.1 hp
  exact ⟨(h.below.alloc hs ob).grown hg (by simp; omega) (fun j e => own_base3 h.row j e), by rw [List.take_succ_eq_append_getElem hlt, insCells_snoc]; exact hown⟩
/-- While the threads are written anew. -/
structure FreeSt (w0 : World) (T : List (List (Int × Int))) (t : Nat) (o : Value) (wr : World) : Prop where
  below : Below w0.heap.size w0 wr
  ex : ∃ vs, wr.ownsRow w0.heap.size 41 1 o t vs ∧ ∀ (j : Nat) l, j < t → T[j]? = some l → ∃ v, vs[j]? = some v ∧ wr.ownsRow w0.heap.size 43 2 v l.length (insCells l)
theorem FreeSt.more {w0 : World} {T : List (List (Int × Int))} {t : Nat} {o o' lv : Value} {wr wi w5 : World} {ob : Obj} {l : List (Int × Int)} {vs : List Value} (hb : Below w0.heap.size w0 wr) (hr : wr.ownsRow w0.heap.size 41 1 o t vs)
    (he : ∀ (j : Nat) l, j < t → T[j]? = some l → ∃ v, vs[j]? = some v ∧ wr.ownsRow w0.heap.size 43 2 v l.length (insCells l)) (hl : T[t]? = some l) (hc : CopySt wr l l.length lv wi)
    (hown : w5.ownsRow w0.heap.size 41 1 o' (t + 1) (vs ++ [lv])) (hg : (wi.alloc ob).grownBy w5 o.ownBlock) : FreeSt w0 T (t + 1) o' w5 := by
  have hog := grown_only hg
  have z1 := hb.size
  have z2 := hc.below.size
  have hvs : vs.length = t := by have := hr.1; simpa using this
  have hall : Only (fun k => o.ownBlock = some k) wr w5 := ((Only.of_below hc.below _).alloc ob).trans hog
  refine ⟨hall.below_step z1 hb (fun i hi e => by have := (hr.lt i e).1; omega), _, hown, fun j l' hj hl' => ?_⟩
  by_cases e : j = t
  · subst e
    rw [hl] at hl'
    cases hl'
    refine ⟨lv, by rw [List.getElem?_append_right (by omega), hvs]; simp, ?_⟩
    have h1 := hc.row
    rw [List.take_length] at h1
    refine own_only ((h1.mono z1).alloc ob) hog (fun k hk e => ?_)
    have h2 := (h1.lt k hk).1
    have h3 := (hr.lt k e).2
    omega
  · obtain ⟨v, hv, h1⟩ := he j l' (by omega) hl'
    refine ⟨v, by rw [List.getElem?_append_left (by omega)]; exact hv, own_only h1 hall (fun k hk e => ?_)⟩
    exact rows_apart6 h1 hr hk e (by decide) rfl
/-- In the end. -/
theorem FreeSt.thr {w0 : World} {T : List (List (Int × Int))} {o : Value} {wr : World} (h : FreeSt w0 T T.length o wr) : ∃ a c, o = .slice a (freeT T).length c ∧ ThrIn (fun k => w0.heap.size ≤ k ∧ k < wr.heap.size) wr a (freeT T) := by
  obtain ⟨vs, hr, he⟩ := h.ex
  obtain ⟨a, c, rfl, ha⟩ := own_form hr
  refine ⟨a, c, by rw [freeT_len], fun t l hl => ?_⟩
  have hlt : t < T.length := by have := (List.getElem?_eq_some_iff.1 hl).1; rwa [freeT_len] at this
  have hT := List.getElem?_eq_getElem hlt
  rw [freeT_at hT] at hl
  cases hl
  obtain ⟨g, rfl⟩ := ha t hlt
  obtain ⟨v, hv, h1⟩ := he t _ hlt hT
  obtain ⟨a', c', rfl, ha'⟩ := own_form h1
  have h2 := hr.cells (g := g) rfl t _ hv
  rw [addr_add] at h2
  refine ⟨g, 0, a', c', rfl, hr.lt g rfl, by simpa using h2, fun i p hp => ?_⟩
  simp only [List.getElem?_map, Option.map_eq_some_iff] at hp
  obtain ⟨q, hq, rfl⟩ := hp
  obtain ⟨g', rfl⟩ := ha' i (List.getElem?_eq_some_iff.1 hq).1
  obtain ⟨k1, k2⟩ := insCells_at _ _ _ hq
  have m1 := h1.cells (g := g') rfl _ _ k1
  have m2 := h1.cells (g := g') rfl _ _ k2
  rw [addr_add] at m1 m2
  exact ⟨g', 0, rfl, h1.lt g' rfl, by simpa using m1, by simpa [Nat.add_assoc] using m2⟩

/-- What the program's Run tells of them, two finished ones behind them. -/
structure AllTo (n B2 Bw : Nat) (F : RS ISt) (w5 : World) (e : Ending) (w6 : World) : Prop where
  ex : ∃ a c, e = .returned (.agg #[.slice a F.moves.length c, numV F.calls, numV (F.err (insM n))]) ∧ NumsIn w6 (.slice a F.moves.length c) F.moves ∧ (∀ k, (Value.slice a F.moves.length c).ownBlock = some k → w5.heap.size ≤ k)
  only : Only (fun k => k = Bw ∨ B2 ≤ k) w5 w6
theorem all_told {w2 w3 w5 : World} {Bw : Nat} {T : List (List (Int × Int))} {L : List Int} {pa : Option Addr} {pc : Nat} {v v5 : Value} {vs : List Value} (hB : Below w2.heap.size w2 w3) (hown : w3.ownsRow w2.heap.size 45 1 v T.length vs)
    (hst : ∀ K : Nat → Prop, (∀ k, k < w3.heap.size → k ≠ Bw → v.ownBlock ≠ some k → K k) → ∀ (j : Nat) v l, vs[j]? = some v → T[j]? = some l → StepIs K (insD K Bw) (fun _ => False) w3 v (deedsOf j l))
    (hown5 : w5.ownsRow w2.heap.size 45 1 v5 (T.length + 2) (vs ++ [.nilFunc, .nilFunc])) (ho5 : Only (fun k => v.ownBlock = some k) w3 w5)
    (hW : WorldIs w2 0 Bw zeroW (.slice none 0 0)) (hp : ∀ w', Only (fun k => k = Bw ∨ w2.heap.size ≤ k) w5 w' → ListIn numV w' pa L) (hn : T.length ≤ 8) (hl : ∀ l ∈ T, l.length ≤ 60) (hL : L.length ≤ 500) (F : RS ISt) (hF : F = RS.run (insM (T.length + 2)) (zeroW, rem0 T ++ [[], []]) L) :
    Calls Try.prog 8 #[.slice pa L.length pc, v5] w5 (AllTo (T.length + 2) w2.heap.size Bw F w5) := by
  have hbw := hW.blk.lt
  have hz := hB.size
  have hz5 := ho5.size
  have hvl : vs.length = T.length := by have := hown.1; simpa using this
  have hvo : ∀ k, v.ownBlock = some k → w2.heap.size ≤ k ∧ k < w3.heap.size := fun k hk => hown.lt k hk
  have hW5 : WorldIs w5 0 Bw zeroW (.slice none 0 0) := ⟨(hW.blk.below hB hbw).only ho5 (fun e => by have := (hvo _ e).1; omega), World.ownsRow_nil _ _ _ _⟩
  have hinv : chainInv (T.length + 2) (fun k => k < w3.heap.size ∧ k ≠ Bw ∧ v.ownBlock ≠ some k) insJ (InsI (fun k => k < w3.heap.size ∧ k ≠ Bw ∧ v.ownBlock ≠ some k) Bw) (insD (fun k => k < w3.heap.size ∧ k ≠ Bw ∧ v.ownBlock ≠ some k) Bw) (fun _ => False) (zeroW, rem0 T ++ [[], []]) (vs ++ [.nilFunc, .nilFunc]) w5 := by
    have hr := rem_zero hn hl
    refine ⟨fun _ => False, ⟨?_, ?_⟩, fun _ => False.elim, fun _ _ => id, fun _ => False.elim, fun _ hk => by have := hk.1; omega, fun _ => False.elim, ⟨fun h => h.2.1 rfl, fun h => h.elim id id, fun _ h => (h.elim id id).elim, fun _ hk => by have := hk.1; omega, _, hW5, fun g hg => by simp [Value.ownBlock] at hg⟩, by simp [hvl], by simp [remOf_len], fun t u ds hu hds => ?_⟩
    · have h9 := hr.1
      show 0 + sumLen (rem0 T ++ [[], []]) ≤ 1000
      rw [sumLen_app]
      show 0 + (sumLen (remOf T (List.replicate T.length 0)) + 0) ≤ 1000
      omega
    · intro ds hds d hd
      rcases List.mem_append.1 hds with h | h
      · exact hr.2 ds h d hd
      · simp at h; subst h; simp at hd
    · by_cases hlt : t < T.length
      · have hT := List.getElem?_eq_getElem hlt
        have h1 : (rem0 T ++ [[], []])[t]? = some ds := hds
        rw [List.getElem?_append_left (by rw [remOf_len]; exact hlt), rem_zero_at hT] at h1
        cases h1
        rw [List.getElem?_append_left (by omega)] at hu
        exact (hst _ (fun k h1 h2 h3 => ⟨h1, h2, h3⟩) t u _ hu hT).frame (ins_deeds _ Bw) (fun _ h => h) (ho5.mono fun k _ hk => ⟨id, fun hK => hK.2.2 hk⟩)
      · have h1 : (rem0 T ++ [[], []])[t]? = some ds := hds
        rw [List.getElem?_append_right (by rw [remOf_len]; omega), remOf_len] at h1
        rw [List.getElem?_append_right (by omega), hvl] at hu
        generalize t - T.length = i at h1 hu
        match i, h1, hu with
        | 0, h1, hu => cases h1; cases hu; exact .inl ⟨rfl, rfl⟩
        | 1, h1, hu => cases h1; cases hu; exact .inl ⟨rfl, rfl⟩
  have hconv : ∀ w', Only (fun k => ¬ (k < w3.heap.size ∧ k ≠ Bw ∧ v.ownBlock ≠ some k)) w5 w' → Only (fun k => k = Bw ∨ w2.heap.size ≤ k) w5 w' := fun w' ho => ho.mono fun k hk hn => by
    apply Classical.byContradiction
    intro hne
    exact hn ⟨by omega, fun e => hne (.inl e), fun e => hne (.inr (hvo k e).1)⟩
  refine (sched_Run (chain_sys (ins_deeds (fun k => k < w3.heap.size ∧ k ≠ Bw ∧ v.ownBlock ≠ some k) Bw) (T.length + 2) insJ insJ_ok insJ_go) hinv (SliceK.of_own hown5) (by show T.length + 2 ≤ 1000; omega) (pa := pa) (pc := pc) (L := L) (fun w' ho => hp w' (hconv w' ho)) (by omega)).mono ?_
  rw [← hF]
  rintro e w6 ⟨⟨M, mv, vs', rfl, hN, hm, _⟩, ho⟩
  obtain ⟨a, c, rfl, _⟩ := hN.form
  exact ⟨⟨a, c, rfl, hN, fun k hk => (hm k hk).2⟩, hconv w6 ho⟩

/-- All of it, by the threads as they were written anew. -/
theorem free_runs {T : List (List (Int × Int))} (hn : T.length ≤ 8) (hl : ∀ l ∈ T, l.length ≤ 60) (L : List Int) (F : RS ISt) (hF : F = RS.run (insM ((freeT T).length + 2)) (zeroW, rem0 (freeT T) ++ [[], []]) L) :
    F.err (insM ((freeT T).length + 2)) = 0 ∧ F.moves.length = (T.map List.length).sum ∧ F.calls = (T.map List.length).sum ∧ (∀ m ∈ F.moves, ∃ t : Nat, m = t ∧ t < (freeT T).length) ∧ ∀ (t : Nat) l, (freeT T)[t]? = some l → F.moves.count (t : Int) = l.length := by
  rw [freeT_len] at hF ⊢
  obtain ⟨h1, h2, h3, h4, h5⟩ := free_run hn hl L F hF
  refine ⟨h1, h2, h3, h4, fun t l ht => ?_⟩
  have hlt : t < T.length := by have := (List.getElem?_eq_some_iff.1 ht).1; rwa [freeT_len] at this
  have hT := List.getElem?_eq_getElem hlt
  rw [freeT_at hT] at ht
  cases ht
  rw [h5 t _ hT]
  simp

/-- How often each was moved. -/
def countsL (n : Nat) (M : List Int) : List Value := (List.range n).map fun t : Nat => numV (M.count (t : Int) : Nat)
theorem counts_at {n t : Nat} {M : List Int} (ht : t < n) : (countsL n M)[t]? = some (numV (M.count (t : Int) : Nat)) := by simp [countsL, ht]
theorem counts_snoc {n t : Nat} {M : List Int} (ht : t < n) : countsL n (M ++ [(t : Int)]) = (countsL n M).set t (.int .i64 ((M.count (t : Int) : Nat) + 1 : Int)) := by
  apply List.ext_getElem?
  intro u
  by_cases hu : t = u
  · subst hu
    rw [List.getElem?_set_self (by simp [countsL, ht]), counts_at ht, List.count_append]
    simp
  · rw [List.getElem?_set_ne hu]
    by_cases hlt : u < n
    · rw [counts_at hlt, counts_at hlt, List.count_append]
      have : List.count ((u : Nat) : Int) [(t : Int)] = 0 := by
        rw [List.count_eq_zero]; simp; omega
      rw [this]
      simp
    · simp [countsL, hlt]
theorem counts_zero (n : Nat) : countsL n [] = List.replicate n (numV 0) := by
  apply List.ext_getElem?
  intro u
  by_cases hlt : u < n
  · rw [counts_at hlt, List.getElem?_replicate_of_lt hlt]; rfl
  · simp [countsL, hlt]

end Go.Proofs.Ytfgkickjjeamgaa
