/- set.Join at numbers. -/
import Derived.Test.YtmfejpbijllojaaList3
import Derived.Test.YtmfejpbijllojaaRef3
import Derived.RegionIn
import Derived.Laws.AppendOwnNone
import Derived.Deep.RegionWith
import Derived.Deep.CutBlock
namespace Go.Proofs.Ytmfejpbijllojaa
open Go.RowKit Go.Shelf

attribute [local go_sem] Oper.semAt_some

/-- One round of Join: what is put together, and what is left of the second. -/
def jstep (p : List Int × List Int) (x : Int) : List Int × List Int := (p.1 ++ p.2.takeWhile (ltB x) ++ [x], p.2.drop (plc (ltB x) p.2 + if x ∈ p.2 then 1 else 0))
def jfold (L : List Int) (pre : List Int) : List Int × List Int := pre.foldl jstep ([], L)
theorem jfold_snoc (L pre : List Int) (x : Int) : jfold L (pre ++ [x]) = jstep (jfold L pre) x := by simp [jfold]
theorem jfold_join : ∀ (S M R : List Int), (S.foldl jstep (M, R)).1 ++ (S.foldl jstep (M, R)).2 = M ++ jnZ S R
  | [], M, R => by simp [jnZ]
  | x :: r, M, R => by
    rw [List.foldl_cons, jstep, jfold_join r, jnZ]
    simp
theorem jfold_all (S L : List Int) : (jfold L S).1 ++ (jfold L S).2 = jnZ S L := by
  have := jfold_join S [] L
  simpa [jfold] using this
theorem jfold_up : ∀ (S M R : List Int), Up R → Up (S.foldl jstep (M, R)).2 ∧ (S.foldl jstep (M, R)).1.length + (S.foldl jstep (M, R)).2.length ≤ M.length + R.length + S.length
  | [], M, R, h => ⟨h, by simp⟩
  | x :: r, M, R, h => by
    have h1 := jfold_up r (M ++ R.takeWhile (ltB x) ++ [x]) (R.drop (plc (ltB x) R + if x ∈ R then 1 else 0)) (up_drop h _)
    refine ⟨h1.1, ?_⟩
    rw [List.foldl_cons, jstep]
    have h2 := h1.2
    have h3 : (R.takeWhile (ltB x)).length = plc (ltB x) R := rfl
    have h4 := plc_le (ltB x) R
    simp only [List.length_append, List.length_cons, List.length_nil, List.length_drop] at h2 ⊢
    omega
theorem jfold_facts (S L : List Int) (h : Up L) : Up (jfold L S).2 ∧ (jfold L S).1.length + (jfold L S).2.length ≤ L.length + S.length := by
  have := jfold_up S [] L h
  simpa [jfold] using this

/-- 'append' of whatever slice of numbers to a row of the call's own. -/
theorem run_append_src (W : World) (base : Nat) (ty : TypeId) (v u : Value) (M R : List Int) (hown : W.ownsRow base 3 1 v M.length (M.map numV)) (hsrc : NumsIn W u R) (hbig : M.length + R.length ≤ 1000000) (hbase : base ≤ W.heap.size) :
    ∃ v' w', (Builtin.append_ #[40, 40] ty #[v, u]).run Try.prog W = .ok v' w' ∧ w'.ownsRow base 3 1 v' (M ++ R).length ((M ++ R).map numV) ∧ W.grownBy w' v.ownBlock := by
  obtain ⟨i0, hi, hz0, hz1, hz2⟩ := info_parts infoInt
  rcases hsrc.2 with ⟨rfl, h0⟩ | ⟨b, off, cap, rfl, _, _, hc⟩
  · obtain rfl : R = [] := List.eq_nil_of_length_eq_zero h0
    rw [List.append_nil]
    exact ⟨v, W, run_append_owned_none (P := Try.prog) (w := W) base 40 ty 3 i0 1 Try.underlying40 hi v _ _ hown, hown, ⟨rfl, rfl, rfl, Nat.le_refl _, fun _ _ _ => rfl⟩⟩
  · obtain ⟨v', w', h1, h2, h3, _⟩ := run_append_own (P := Try.prog) W base 40 ty 3 i0 (.int .i64 0) 1 8 Try.underlying40 hi hz0 hz1 hz2 rfl (by decide) v _ _ hown ⟨b, off, none⟩ R.length cap (R.map numV) (by simp) hc.get (num_one R) (by simp only [maxLen]; omega) (by omega) hbase
    exact ⟨v', w', h1, by rw [List.length_append, List.map_append]; exact h2, h3⟩

/-- One append to the list in box P, and the store behind it. -/
theorem app_step {W : World} {n₀ P Pl : Nat} {v u' pu : Value} {M R : List Int} (hv : Boxed W P 40 v) (hl : Boxed W Pl 40 pu) (hne : Pl ≠ P) (hrow : W.ownsRow n₀ 3 1 v M.length (M.map numV)) (hsrc : NumsIn W u' R)
    (hbig : M.length + R.length ≤ 1000000) (hn : n₀ ≤ W.heap.size) (hP : n₀ ≤ P) :
    ∃ a3 n3 c3 w1, (Builtin.append_ #[40, 40] 40 #[v, u']).run Try.prog W = .ok (.slice a3 n3 c3) w1 ∧ Boxed w1 P 40 v ∧ Boxed (w1.setCell ⟨P, 0, none⟩ (.slice a3 n3 c3)) P 40 (.slice a3 n3 c3) ∧ Boxed (w1.setCell ⟨P, 0, none⟩ (.slice a3 n3 c3)) Pl 40 pu ∧
      (w1.setCell ⟨P, 0, none⟩ (.slice a3 n3 c3)).ownsRow n₀ 3 1 (.slice a3 n3 c3) (M ++ R).length ((M ++ R).map numV) ∧ KeepsOthers W (w1.setCell ⟨P, 0, none⟩ (.slice a3 n3 c3)) ∧ Below n₀ W (w1.setCell ⟨P, 0, none⟩ (.slice a3 n3 c3)) := by
  obtain ⟨v', w1, hrun, hown, hgrow⟩ := run_append_src W n₀ 40 v u' M R hrow hsrc hbig hn
  have hf : ∃ a3 n3 c3, v' = .slice a3 n3 c3 := by
    rcases hown.2 with ⟨rfl, _⟩ | ⟨g, cap, cur, rfl, _⟩
    · exact ⟨_, _, _, rfl⟩
    · exact ⟨_, _, _, rfl⟩
  obtain ⟨a3, n3, c3, rfl⟩ := hf
  have hte : 40 ≠ 3 := by decide
  have hv1 : Boxed w1 P 40 v := hv.kept hgrow (hv.not_row hte hrow)
  have hl1 : Boxed w1 Pl 40 pu := hl.kept hgrow (hl.not_row hte hrow)
  refine ⟨a3, n3, c3, w1, hrun, hv1, hv1.set _, hl1.other hne _, hown.kept (grownBy_setCell' w1 P _) (.inr (hv1.not_row hte hown).symm), ?_, ?_⟩
  · refine (KeepsOthers.of_grownBy hgrow fun j o ej hj => ?_).trans (KeepsOthers.setCell _ _ _)
    rcases hrow.2 with ⟨rfl, _⟩ | ⟨g, cap, cur, rfl, _, hgb, _⟩
    · simp [Value.ownBlock] at ej
    · simp [Value.ownBlock] at ej
      subst ej
      rw [hgb] at hj
      cases hj; rfl
  · exact ((Below.refl n₀ W).grown hgrow hn (fun j e => own_base3 hrow j e)).setCell (p := ⟨P, 0, none⟩) hP _
theorem step_append_in {F : Fence} {n : Nat} {P : Program} {ops : Array Oper} {o : Oper} {a : Act} {w : World} {K : Act → World → Prop} {Q : Exit → Act → World → Prop} {E : Prop} (hgd : o.guard = none) (s x : Operand) (t : TypeId)
    (hop : o.op = Op.call { callee := Callee.builtin Builtin.append, args := #[s, x], argTypes := #[t, t] }) (v u v' : Value) (w' : World) (hs : a.eval s = v) (hx : a.eval x = u) (hrun : (Builtin.append_ #[t, t] o.type #[v, u]).run P w = .ok v' w') (hK : K (a.put o.dst v') w') :
    if Region.wanted o (yielded ops a.tmps) = true then Oper.wpIn F n P o a w K Q else E := by
  have hw : Region.wanted o (yielded ops a.tmps) = true := by simp [Region.wanted, hgd]
  rw [if_pos hw]
  unfold Oper.wpIn
  refine ⟨?_, ?_⟩
  · simp [Oper.about, hop, resolve, Target.leads, Sem.run_pure]
  · rw [Oper.semAt_plain F _ _ (by rw [hop]; intro c hc'; cases hc')]
    simp [execOp, hop, resolve, invoke, builtin, hs, hx, hrun, Result.andThen]
    exact hK
theorem wpListIn_append_run {F : Fence} {n : Nat} {P : Program} {w : World} {ops : Array Oper} {rest : List Oper} {o : Oper} {a : Act} {Q : Exit → Act → World → Prop} (hgd : o.guard = none) (s x : Operand) (t : TypeId)
    (hop : o.op = Op.call { callee := Callee.builtin Builtin.append, args := #[s, x], argTypes := #[t, t] }) (v u v' : Value) (w' : World) (hs : a.eval s = v) (hx : a.eval x = u) (hrun : (Builtin.append_ #[t, t] o.type #[v, u]).run P w = .ok v' w')
    (h : wpListIn F n P ops Q rest (a.put o.dst v') w') : wpListIn F n P ops Q (o :: rest) a w := by
  refine wpListIn_plain hgd fun K hK' => ?_
  unfold Oper.wpIn
  refine ⟨?_, ?_⟩
  · simp [Oper.about, hop, resolve, Target.leads, Sem.run_pure]
  · rw [Oper.semAt_plain F _ _ (by rw [hop]; intro c hc'; cases hc')]
    simp [execOp, hop, resolve, invoke, builtin, hs, hx, hrun, Result.andThen]
    exact hK' _ _ h
theorem lies_take {W : World} {b off cap p : Nat} {R : List Int} (hp : p ≤ R.length) (hcap : R.length ≤ cap) (hb : b < W.heap.size) (hc : CellsAt W b off (R.map numV)) : NumsIn W (.slice (some ⟨b, off, none⟩) p cap) (R.take p) := by
  have e : (R.take p).length = p := by simp; omega
  refine ⟨by simp, .inr ⟨b, off, cap, by rw [e], by omega, hb, ?_⟩⟩
  rw [List.map_take]; exact hc.take p
theorem lies_drop {W : World} {n₀ b off cap p : Nat} {R : List Int} (hp : p ≤ R.length) (hcap : R.length ≤ cap) (hb : b < n₀) (hc : CellsAt W b off (R.map numV)) : LiesIn W n₀ (.slice (if cap = p then some ⟨b, off, none⟩ else some ⟨b, off + p, none⟩) (R.length - p) (cap - p)) (R.drop p) := by
  have e : (R.drop p).length = R.length - p := by simp
  by_cases hcp : cap = p
  · rw [if_pos hcp]
    refine .inr ⟨b, off, cap - p, by rw [e], by omega, hb, ?_⟩
    rw [List.drop_eq_nil_of_le (by omega)]
    intro j v hv; simp at hv
  · rw [if_neg hcp]
    refine .inr ⟨b, off + p, cap - p, by rw [e], by omega, hb, ?_⟩
    rw [List.map_drop]; exact hc.drop p

theorem set_Len_at (a : Option Addr) (n c : Nat) (w : World) :
    Calls Try.prog 36 #[.agg #[.slice a n c]] w fun e w' => e = .returned (.int .i64 (n : Int)) ∧ w' = w.alloc (.cells #[.slice a n c] 43) := by
  go_enter Try.func36, Try.ntmps36
  go_wp2
  go_ret
  exact ⟨rfl, rfl⟩
theorem threeB (w : World) (u v r : Value) (t1 t2 : TypeId) : ∃ W, ((w.alloc (.cells #[u] t1)).alloc (.cells #[v] t1)).alloc (.cells #[r] t2) = W ∧ Below w.heap.size w W ∧ W.heap.size = w.heap.size + 3 ∧
    W.cell? ⟨w.heap.size, 0, none⟩ = some u ∧ W.cell? ⟨w.heap.size + 1, 0, none⟩ = some v ∧ Boxed W (w.heap.size + 1 + 1) t2 r := by
  have h1 : Below w.heap.size w (w.alloc (.cells #[u] t1)) := (Below.refl _ _).alloc (Nat.le_refl _) _
  have h2 : Below w.heap.size w ((w.alloc (.cells #[u] t1)).alloc (.cells #[v] t1)) := h1.alloc (by simp) _
  have h3 : Below w.heap.size w (((w.alloc (.cells #[u] t1)).alloc (.cells #[v] t1)).alloc (.cells #[r] t2)) := h2.alloc (by simp; omega) _
  refine ⟨_, rfl, h3, by simp, ?_, ?_, ?_⟩
  · have hb : Below (w.heap.size + 1) (w.alloc (.cells #[u] t1)) (((w.alloc (.cells #[u] t1)).alloc (.cells #[v] t1)).alloc (.cells #[r] t2)) := ((Below.refl _ _).alloc (by simp) _).alloc (by simp) _
    rw [hb.cell (p := ⟨w.heap.size, 0, none⟩) (by show w.heap.size < w.heap.size + 1; omega)]
    have := (Boxed.new w t1 u).cell
    exact this
  · have hb : Below (w.heap.size + 2) ((w.alloc (.cells #[u] t1)).alloc (.cells #[v] t1)) (((w.alloc (.cells #[u] t1)).alloc (.cells #[v] t1)).alloc (.cells #[r] t2)) := (Below.refl _ _).alloc (by simp) _
    rw [hb.cell (p := ⟨w.heap.size + 1, 0, none⟩) (by show w.heap.size + 1 < w.heap.size + 2; omega)]
    have := (Boxed.new (w.alloc (.cells #[u] t1)) t1 v).cell
    rw [World.size_alloc] at this
    exact this
  have := Boxed.new ((w.alloc (.cells #[u] t1)).alloc (.cells #[v] t1)) t2 r
  simpa using this
/-- Behind Join's first statement: the list that is made, in its box. -/
structure Made (W3 W' : World) (P g N : Nat) : Prop where
  below : Below W3.heap.size W3 W'
  box : Boxed W' P 40 (.slice (some ⟨g, 0, none⟩) 0 N)
  row : ∃ mk : Array Value, mk.size = N * 1 ∧ W'.heap[g]? = some (.cells mk 3 (0, 0))
  hP : W3.heap.size ≤ P
  hg : W3.heap.size ≤ g

set_option maxRecDepth 100000 in
set_option maxHeartbeats 4000000 in
theorem set_Join (v o : Value) (S L : List Int) (w : World) (h : SetIn w v S) (h' : SetIn w o L) (hbig : S.length + L.length ≤ 100000) :
    Calls Try.prog 19 #[v, o] w fun e w' => ∃ r, e = .returned r ∧ SetIn w' r (jnZ S L) ∧ Below w.heap.size w w' := by
  obtain ⟨i0, hi, hz0, hz1, hz2⟩ := info_parts infoInt
  obtain ⟨⟨s, rfl, hs⟩, hu⟩ := h
  obtain ⟨⟨s', rfl, hs'⟩, hu'⟩ := h'
  have hform : ∀ {s : Value} {L : List Int}, NumsIn w s L → ∃ a n c, s = .slice a n c := fun hs => by
    rcases hs.2 with ⟨rfl, h0⟩ | ⟨b, off, cap, rfl, _, _, hc⟩
    · exact ⟨_, _, _, rfl⟩
    · exact ⟨_, _, _, rfl⟩
  obtain ⟨a, n, c, rfl⟩ := hform hs
  obtain ⟨a', n', c', rfl⟩ := hform hs'
  clear hform
  have HS := Lib.hid hs
  have HS' := Lib.hid hs'
  have HU := Lib.hid hu
  have HU' := Lib.hid hu'
  clear hs hu hs' hu'
  refine (callsIn_wide (n := 6)).1 ?_
  refine callsIn_of_wp_marks Try.func19 rfl trivial ?_ rfl
  simp only [Try.ntmps19, List.size_toArray, List.length_cons, List.length_nil, Nat.reduceAdd, Nat.reduceSub, Array.replicate_succ, Array.replicate_zero, List.push_toArray, List.append_toArray, List.nil_append, List.cons_append]
  have hn : n = S.length := by
    rcases HS.out.2 with ⟨e, h0⟩ | ⟨b, off, cap, e, _⟩
    · cases e; exact h0.symm
    · cases e; rfl
  have hn' : n' = L.length := by
    rcases HS'.out.2 with ⟨e, h0⟩ | ⟨b, off, cap, e, _⟩
    · cases e; exact h0.symm
    · cases e; rfl
  subst hn hn'
  obtain ⟨N, HN⟩ : ∃ N, Hid (N = S.length + L.length) := ⟨_, rfl⟩
  have hmk : ∀ W : World, (Instr.makeSlice 40 (.int .i64 0) (.int .i64 ((S.length : Int) + (L.length : Int)))).run Try.prog W = .ok (.slice (some ⟨W.heap.size, 0, none⟩) 0 N) (W.alloc (.cells (madeCells (Value.int .i64 0).cells (N * 1)) 3)) := fun W => by
    have h := run_make (P := Try.prog) W 40 3 i0 (.int .i64 0) Try.underlying40 hi hz0 .i64 .i64 0 ((N : Nat) : Int) (by omega) (by omega) (by rw [hz2]; have := HN.out; omega) (by have := HN.out; omega)
    have e : ((S.length : Int) + (L.length : Int)) = ((N : Nat) : Int) := by have := HN.out; omega
    rw [e]
    simpa [hz1] using h
  obtain ⟨mk, HM⟩ : ∃ mk, Hid (madeCells (Value.int .i64 0).cells (N * 1) = mk) := ⟨_, rfl⟩
  have hms : mk.size = N * 1 := by rw [← HM.out]; simp [madeCells]
  rw [HM.out] at hmk
  have HMS := Lib.hid hms
  clear hms
  have k1 : IntKind.i64.wrap ((S.length : Int) + (L.length : Int)) = (S.length : Int) + (L.length : Int) := IntWalk.i64_in _ (by omega)
  gi_wp2_with fail
  refine wpIn_wide.2 ?_
  rename_i Kx hKx
  refine wp_mono (Q := Exit.then Kx (fun _ _ _ => False)) ?_ (fun e a w h => by cases e <;> first | exact h | exact h.elim)
  obtain ⟨W3, hW, B3, z3, c0, c1, b2⟩ := threeB w (.slice a S.length c) (.slice a' L.length c') (.slice none 0 0) 43 43
  rw [hW]
  clear hW
  have hrest : ∀ (P g : Nat) (W' : World), Made W3 W' P g N → Kx { tmps := #[.agg #[.slice a S.length c], .agg #[.slice a' L.length c'], .pointer (some ⟨w.heap.size, 0, none⟩), .pointer (some ⟨w.heap.size + 1, 0, none⟩), .pointer (some ⟨w.heap.size + 1 + 1, 0, none⟩), .pointer (some ⟨P, 0, none⟩), undef, undef, undef, undef, .agg #[.slice a S.length c], .int .i64 (S.length : Int), .agg #[.slice a' L.length c'], .int .i64 (L.length : Int), .int .i64 ((S.length : Int) + (L.length : Int)), .slice (some ⟨g, 0, none⟩) 0 N, undef, undef, undef, undef, undef, undef, undef, undef, undef, undef, undef, undef, undef, undef, undef, undef, undef, undef, undef, undef, undef, undef, undef, undef, undef, undef, undef, undef, undef, undef], defers := [] } W' := by
    clear hmk k1
    intro P g W' hm
    obtain ⟨B', bv, ⟨mk', hmk', hrow⟩, hP, hg⟩ := hm
    have e0 := (B'.cell (p := ⟨w.heap.size, 0, none⟩) (by show w.heap.size < W3.heap.size; omega)).trans c0
    have e1 := (B'.cell (p := ⟨w.heap.size + 1, 0, none⟩) (by show w.heap.size + 1 < W3.heap.size; omega)).trans c1
    have e0' : ∀ o, (W'.alloc o).cell? ⟨w.heap.size, 0, none⟩ = some (.slice a S.length c) := fun o => by
      rw [World.cell?_alloc_lt _ _ _ (by have := B'.size; show w.heap.size < W'.heap.size; omega)]; exact e0
    have BW : Below w.heap.size w W' := B3.trans (B'.mono B3.size)
    rw [z3] at B' hP hg
    have hsz := B'.size
    refine hKx _ _ ?_
    gi_wp2_with fail
    refine ⟨trivial, (callsIn_wide.2 (set_All _ S _ (HS.out.below (BW.alloc BW.size _)))).mono ?_⟩
    rintro e w' ⟨rfl, rfl⟩
    rw [World.size_alloc]
    gi_wp2_with fail
    have b2' := b2
    have b2 := Boxed.new W' 40 (.slice a' L.length c')
    have b3 := Boxed.new (W'.alloc (.cells #[.slice a' L.length c'] 40)) 43 (.slice a S.length c)
    rw [World.size_alloc] at b3
    have hB0 : Below (w.heap.size + 3) W' ((W'.alloc (.cells #[.slice a' L.length c'] 40)).alloc (.cells #[.slice a S.length c] 43)) := ((Below.refl _ W').alloc (by omega) _).alloc (by simp; omega) _
    have hli : Hid (LiesIn ((W'.alloc (.cells #[.slice a' L.length c'] 40)).alloc (.cells #[.slice a S.length c] 43)) (w.heap.size + 3) (.slice a S.length c) S) :=
      ((HS.out.lies.below BW).mono (by omega)).below hB0
    have hli' : Hid (LiesIn W' (w.heap.size + 3) (.slice a' L.length c') L) := (HS'.out.lies.below BW).mono (by omega)
    have hPl : P < W'.heap.size := (Array.getElem?_eq_some_iff.1 bv).1
    have hgl : g < W'.heap.size := (Array.getElem?_eq_some_iff.1 hrow).1
    have hr0 : ((W'.alloc (.cells #[.slice a' L.length c'] 40)).alloc (.cells #[.slice a S.length c] 43)).ownsRow (w.heap.size + 3) 3 1 (.slice (some ⟨g, 0, none⟩) 0 N) 0 [] := by
      refine ⟨rfl, .inr ⟨g, N, mk', rfl, hg, ?_, Nat.zero_le _, by have := HN.out; simp only [maxLen]; omega, hmk', by simp⟩⟩
      rw [heap_alloc_at, if_neg (by simp only [World.size_alloc]; omega), heap_alloc_at, if_neg (by omega)]
      exact hrow
    refine wpIn_rangeFunc_ownG rfl (by omega) (gf := 50) (lb := #[.pointer (some ⟨W'.heap.size + 1, 0, none⟩)]) rfl trivial (enters_of Try.func50 (by kernel_rfl) rfl)
      (set_All_stops (6 - 1) (by omega) (W'.heap.size + 1) (w.heap.size + 3) (.slice a S.length c) S (by omega) _ (by simp) (by simp; omega) b3.cell hli.out) belowK_t (belowK_b (by simp; omega)) (Below.refl _ _) (fun _ => rfl)
      (fun (pre : List Int) W => ((∃ v, Boxed W P 40 v ∧ W.ownsRow (w.heap.size + 3) 3 1 v (jfold L pre).1.length ((jfold L pre).1.map numV) ∧ True) ∧ (∃ u, Boxed W W'.heap.size 40 u ∧ LiesIn W' (w.heap.size + 3) u (jfold L pre).2)) ∧ Below (w.heap.size + 3) W' W)
      (fun _ _ _ => False)
      (OwnFrom.and (OwnFrom.and (Own.from (holdsRow_own (w.heap.size + 3) P 40 3 1 (fun pre : List Int => (jfold L pre).1.length) (fun pre => (jfold L pre).1.map numV) (fun _ _ => True)) _) (Own.from (boxedEx_own W'.heap.size 40 (fun (pre : List Int) u => LiesIn W' (w.heap.size + 3) u (jfold L pre).2)) _)) (ownFrom_below (by omega) (by simp; omega)))
      (fun _ _ _ _ _ hs _ _ => hs)
      ⟨⟨⟨_, (bv.alloc _).alloc _, hr0, trivial⟩, ⟨_, b2.alloc _, hli'.out⟩⟩, hB0⟩
      (fun x => { tmps := #[.agg #[.slice a S.length c], .agg #[.slice a' L.length c'], .pointer (some ⟨w.heap.size, 0, none⟩), .pointer (some ⟨w.heap.size + 1, 0, none⟩), .pointer (some ⟨w.heap.size + 1 + 1, 0, none⟩), .pointer (some ⟨P, 0, none⟩), .pointer (some ⟨W'.heap.size, 0, none⟩), .int .i64 x, undef, undef, .agg #[.slice a S.length c], .int .i64 (S.length : Int), .agg #[.slice a' L.length c'], .int .i64 (L.length : Int), .int .i64 ((S.length : Int) + (L.length : Int)), .slice (some ⟨g, 0, none⟩) 0 N, .pointer (some ⟨w.heap.size + 1, 0, none⟩), .slice a' L.length c', .agg #[.slice a S.length c], .func (.func 50) #[] #[.pointer (some ⟨W'.heap.size + 1, 0, none⟩)], .int .i64 x, undef, undef, undef, undef, undef, undef, undef, undef, undef, undef, undef, undef, undef, undef, undef, undef, undef, undef, undef, undef, undef, undef, undef, undef, undef], defers := [] }) ?assign ?body ?done ?stop
    case assign =>
      intro l x W K hK
      gi_wp2
      exact hK
    case body =>
      rintro l pre x W ⟨⟨⟨v, hv, hrow, _⟩, ⟨u, hul, hlu⟩⟩, hB⟩ hlt
      obtain ⟨hup, hlen⟩ := jfold_facts pre L HU'.out
      have hJ : jfold L (pre ++ [x]) = jstep ((jfold L pre).1, (jfold L pre).2) x := jfold_snoc L pre x
      have HJ := Lib.hid hJ
      clear hJ
      generalize (jfold L pre).1 = M at hrow hlen HJ
      generalize (jfold L pre).2 = R at hlu hup hlen HJ
      have hbs := hB.size
      have hnu := Lib.hid ((hlu.below hB).nums (by omega))
      have hcu := hul.cell
      have hcv := hv.cell
      have HUP := Lib.hid hup
      clear hup
      have hlen' : M.length + R.length ≤ 100000 := by omega
      clear hlen
      by_cases hx : x ∈ R
      · rcases hlu with ⟨rfl, rfl⟩ | ⟨b, off, cap, rfl, hcap, hblt, hcR⟩
        · simp at hx
        · clear hlt
          gi_wp2_with fail
          refine ⟨trivial, (CallsIn.inRound l (callsIn_wide.2 (search_yes _ R x _ hnu.out HUP.out (by omega) hx))).mono ?_⟩
          rintro e w' ⟨rfl, rfl⟩
          have hp := plc_le (ltB x) R
          have hps := plc_lt HUP.out hx
          have hpc : plc (ltB x) R ≤ cap := by omega
          have hbW : b < W.heap.size := by omega
          have q1 : ((plc (ltB x) R : Int) + 1).toNat = plc (ltB x) R + 1 := by omega
          have q2 : (0 : Int) ≤ (plc (ltB x) R : Int) + 1 := by omega
          have q3 : (plc (ltB x) R : Int) + 1 ≤ (R.length : Int) := by omega
          obtain ⟨a3, n3, c3, w1, hrun1, bv1, bv2, bl2, row2, ko2, bb2⟩ := app_step (P := P) (Pl := W'.heap.size) (u' := .slice (some ⟨b, off, none⟩) (plc (ltB x) R) cap) (R := R.take (plc (ltB x) R)) (show Boxed W.drew P _ v from hv) (show Boxed W.drew W'.heap.size _ _ from hul) (by omega) hrow.drew (lies_take hp hcap hbW (hcR.below hB.drew hblt)) (by simp; omega) (by show _ ≤ W.heap.size; omega) hP
          have cb1 := bv1.cell
          have fb1 := bv1.frozen
          have KO := Lib.hid ((KeepsOthers.drew W).trans ko2)
          have BB := Lib.hid (((Below.refl (w.heap.size + 3) W).drew).trans bb2)
          clear ko2 bb2
          gi_wp2_with fail
          rename_i Kr hKr
          have key : Kr { tmps := #[.agg #[.slice a S.length c], .agg #[.slice a' L.length c'], .pointer (some ⟨w.heap.size, 0, none⟩), .pointer (some ⟨w.heap.size + 1, 0, none⟩), .pointer (some ⟨w.heap.size + 1 + 1, 0, none⟩), .pointer (some ⟨P, 0, none⟩), .pointer (some ⟨W'.heap.size, 0, none⟩), .int .i64 x, .int .i64 (plc (ltB x) R : Nat), .bool true, .agg #[.slice a S.length c], .int .i64 (S.length : Int), .agg #[.slice a' L.length c'], .int .i64 (L.length : Int), .int .i64 ((S.length : Int) + (L.length : Int)), .slice (some ⟨g, 0, none⟩) 0 N, .pointer (some ⟨w.heap.size + 1, 0, none⟩), .slice a' L.length c', .agg #[.slice a S.length c], .func (.func 50) #[] #[.pointer (some ⟨W'.heap.size + 1, 0, none⟩)], .int .i64 x, .tuple #[.int .i64 (plc (ltB x) R : Nat), .bool true], .slice (some ⟨b, off, none⟩) R.length cap, .int .i64 x, .tuple #[.int .i64 (plc (ltB x) R : Nat), .bool true], .int .i64 (plc (ltB x) R : Nat), .bool true, v, .slice (some ⟨b, off, none⟩) R.length cap, .int .i64 (plc (ltB x) R : Nat), .slice (some ⟨b, off, none⟩) (plc (ltB x) R) cap, .slice a3 n3 c3, undef, undef, undef, undef, undef, undef, undef, undef, undef, undef, undef, undef, undef, undef], defers := [] } (w1.setCell ⟨P, 0, none⟩ (.slice a3 n3 c3)) := by
            refine hKr _ _ ?_
            clear hKr hrun1 cb1 fb1 bv1 hcu hcv
            generalize w1.setCell ⟨P, 0, none⟩ (.slice a3 n3 c3) = W2 at bv2 bl2 row2 KO BB ⊢
            have hs2 := BB.out.size
            obtain ⟨a4, n4, c4, w3, hrun2, bv3, bv4, bl4, row4, ko4, bb4⟩ := app_step (P := P) (Pl := W'.heap.size) (u' := .slice (some ⟨W2.heap.size, 0, none⟩) 1 1) (R := [x]) (bv2.alloc (.cells #[.int .i64 x] 3)) (bl2.alloc _) (by omega) (row2.alloc _) ⟨rfl, .inr ⟨W2.heap.size, 0, 1, rfl, Nat.le_refl _, by simp, cellsAt_new _ _ _⟩⟩ (by simp; omega) (by simp; omega) hP
            have cb2 := bv2.cell
            have cb3 := bv3.cell
            have fb3 := bv3.frozen
            have cl4 := bl4.cell
            have fl4 := bl4.frozen
            have KO4 := Lib.hid (((KO.out).trans (KeepsOthers.alloc W2 _)).trans ko4)
            have BB4 := Lib.hid ((BB.out.trans ((Below.refl (w.heap.size + 3) W2).alloc (by omega) _)).trans bb4)
            clear ko4 bb4
            gi_wp2_with (gi_at_builtin; refine wpListIn_append_run rfl _ _ 40 rfl _ _ _ _ rfl rfl hrun2 ?_)
            all_goals
              refine ⟨((KO4.out).trans (KeepsOthers.setCell _ _ _)).from _, BB4.out.setCell (p := ⟨W'.heap.size, 0, none⟩) (by show w.heap.size + 3 ≤ W'.heap.size; omega) _, ⟨⟨_, bv4.other (by omega) _, ?_⟩, ⟨_, bl4.set _, ?_⟩⟩, hB.trans (BB4.out.setCell (p := ⟨W'.heap.size, 0, none⟩) (by show w.heap.size + 3 ≤ W'.heap.size; omega) _)⟩
              · have hrw := fun u => row4.kept (grownBy_setCell' _ W'.heap.size u) (.inr (bl4.not_row (show 40 ≠ 3 by decide) row4).symm)
                rw [HJ.out]
                show World.ownsRow _ _ _ _ _ (M ++ (R).takeWhile (ltB x) ++ [x]).length ((M ++ (R).takeWhile (ltB x) ++ [x]).map numV)
                rw [← take_plc]
                exact hrw _
              · have hld := lies_drop (W := W') (n₀ := w.heap.size + 3) (b := b) (off := off) (cap := cap) (p := (plc (ltB x) R + 1)) (R := R) (by omega) hcap hblt hcR
                rw [HJ.out]
                show LiesIn W' _ _ (R.drop (plc (ltB x) R + if x ∈ R then 1 else 0))
                rw [if_pos hx]
                first | exact hld | (rw [if_pos (by assumption)] at hld; exact hld) | (rw [if_neg (by assumption)] at hld; exact hld) | (rw [if_pos (by assumption), show cap - (plc (ltB x) R + 1) = 0 by omega] at hld; exact hld) | (simpa using hld)
          refine wpIn_region_any (by kernel_rfl) ?_
          change wpAnyIn _ _ _ _ _ _ _ _ _ (World.drew _)
          refine wpAnyIn_ready (rs := [0, 1, 2]) (by kernel_rfl) (by simp) ?_
          refine AllReadyIn.cons rfl (fun K hK => ?_) ?_
          · go_simp
            refine hK _ _ ?_
            clear hK K
            refine wpAnyIn_ready (rs := [1, 2]) (by kernel_rfl) (by simp) ?_
            refine AllReadyIn.cons rfl (fun K hK => ?_) ?_
            · go_simp
              refine hK _ _ ?_
              clear hK K
              refine wpAnyIn_ready (rs := [2]) (by kernel_rfl) (by simp) ?_
              refine AllReadyIn.cons rfl (fun K hK => ?_) ?_
              · go_simp
                refine hK _ _ ?_
                clear hK K
                refine wpAnyIn_ready (rs := [3]) (by kernel_rfl) (by simp) ?_
                refine AllReadyIn.cons rfl (fun K hK => ?_) ?_
                · go_simp
                  refine hK _ _ ?_
                  clear hK K
                  refine wpAnyIn_ready (rs := [4]) (by kernel_rfl) (by simp) ?_
                  refine AllReadyIn.cons rfl (fun K hK => ?_) ?_
                  · refine step_append_in rfl (.tmp 27) (.tmp 30) 40 rfl _ _ _ _ rfl rfl hrun1 ?_
                    refine hK _ _ ?_
                    clear hK K
                    refine wpAnyIn_ready (rs := [5]) (by kernel_rfl) (by simp) ?_
                    refine AllReadyIn.cons rfl (fun K hK => ?_) ?_
                    · go_simp
                      refine hK _ _ ?_
                      clear hK K
                      refine wpAnyIn_done (by kernel_rfl) ?_ _
                      exact key
                    exact AllReadyIn.nil
                  exact AllReadyIn.nil
                exact AllReadyIn.nil
              exact AllReadyIn.nil
            refine AllReadyIn.cons rfl (fun K hK => ?_) ?_
            · go_simp
              refine hK _ _ ?_
              clear hK K
              refine wpAnyIn_ready (rs := [1]) (by kernel_rfl) (by simp) ?_
              refine AllReadyIn.cons rfl (fun K hK => ?_) ?_
              · go_simp
                refine hK _ _ ?_
                clear hK K
                refine wpAnyIn_ready (rs := [3]) (by kernel_rfl) (by simp) ?_
                refine AllReadyIn.cons rfl (fun K hK => ?_) ?_
                · go_simp
                  refine hK _ _ ?_
                  clear hK K
                  refine wpAnyIn_ready (rs := [4]) (by kernel_rfl) (by simp) ?_
                  refine AllReadyIn.cons rfl (fun K hK => ?_) ?_
                  · refine step_append_in rfl (.tmp 27) (.tmp 30) 40 rfl _ _ _ _ rfl rfl hrun1 ?_
                    refine hK _ _ ?_
                    clear hK K
                    refine wpAnyIn_ready (rs := [5]) (by kernel_rfl) (by simp) ?_
                    refine AllReadyIn.cons rfl (fun K hK => ?_) ?_
                    · go_simp
                      refine hK _ _ ?_
                      clear hK K
                      refine wpAnyIn_done (by kernel_rfl) ?_ _
                      exact key
                    exact AllReadyIn.nil
                  exact AllReadyIn.nil
                exact AllReadyIn.nil
              exact AllReadyIn.nil
            exact AllReadyIn.nil
          refine AllReadyIn.cons rfl (fun K hK => ?_) ?_
          · go_simp
            refine hK _ _ ?_
            clear hK K
            refine wpAnyIn_ready (rs := [0, 2]) (by kernel_rfl) (by simp) ?_
            refine AllReadyIn.cons rfl (fun K hK => ?_) ?_
            · go_simp
              refine hK _ _ ?_
              clear hK K
              refine wpAnyIn_ready (rs := [2]) (by kernel_rfl) (by simp) ?_
              refine AllReadyIn.cons rfl (fun K hK => ?_) ?_
              · go_simp
                refine hK _ _ ?_
                clear hK K
                refine wpAnyIn_ready (rs := [3]) (by kernel_rfl) (by simp) ?_
                refine AllReadyIn.cons rfl (fun K hK => ?_) ?_
                · go_simp
                  refine hK _ _ ?_
                  clear hK K
                  refine wpAnyIn_ready (rs := [4]) (by kernel_rfl) (by simp) ?_
                  refine AllReadyIn.cons rfl (fun K hK => ?_) ?_
                  · refine step_append_in rfl (.tmp 27) (.tmp 30) 40 rfl _ _ _ _ rfl rfl hrun1 ?_
                    refine hK _ _ ?_
                    clear hK K
                    refine wpAnyIn_ready (rs := [5]) (by kernel_rfl) (by simp) ?_
                    refine AllReadyIn.cons rfl (fun K hK => ?_) ?_
                    · go_simp
                      refine hK _ _ ?_
                      clear hK K
                      refine wpAnyIn_done (by kernel_rfl) ?_ _
                      exact key
                    exact AllReadyIn.nil
                  exact AllReadyIn.nil
                exact AllReadyIn.nil
              exact AllReadyIn.nil
            refine AllReadyIn.cons rfl (fun K hK => ?_) ?_
            · go_simp
              refine hK _ _ ?_
              clear hK K
              refine wpAnyIn_ready (rs := [0, 3]) (by kernel_rfl) (by simp) ?_
              refine AllReadyIn.cons rfl (fun K hK => ?_) ?_
              · go_simp
                refine hK _ _ ?_
                clear hK K
                refine wpAnyIn_ready (rs := [3]) (by kernel_rfl) (by simp) ?_
                refine AllReadyIn.cons rfl (fun K hK => ?_) ?_
                · go_simp
                  refine hK _ _ ?_
                  clear hK K
                  refine wpAnyIn_ready (rs := [4]) (by kernel_rfl) (by simp) ?_
                  refine AllReadyIn.cons rfl (fun K hK => ?_) ?_
                  · refine step_append_in rfl (.tmp 27) (.tmp 30) 40 rfl _ _ _ _ rfl rfl hrun1 ?_
                    refine hK _ _ ?_
                    clear hK K
                    refine wpAnyIn_ready (rs := [5]) (by kernel_rfl) (by simp) ?_
                    refine AllReadyIn.cons rfl (fun K hK => ?_) ?_
                    · go_simp
                      refine hK _ _ ?_
                      clear hK K
                      refine wpAnyIn_done (by kernel_rfl) ?_ _
                      exact key
                    exact AllReadyIn.nil
                  exact AllReadyIn.nil
                exact AllReadyIn.nil
              refine AllReadyIn.cons rfl (fun K hK => ?_) ?_
              · go_simp
                refine hK _ _ ?_
                clear hK K
                refine wpAnyIn_ready (rs := [0]) (by kernel_rfl) (by simp) ?_
                refine AllReadyIn.cons rfl (fun K hK => ?_) ?_
                · go_simp
                  refine hK _ _ ?_
                  clear hK K
                  refine wpAnyIn_ready (rs := [4]) (by kernel_rfl) (by simp) ?_
                  refine AllReadyIn.cons rfl (fun K hK => ?_) ?_
                  · refine step_append_in rfl (.tmp 27) (.tmp 30) 40 rfl _ _ _ _ rfl rfl hrun1 ?_
                    refine hK _ _ ?_
                    clear hK K
                    refine wpAnyIn_ready (rs := [5]) (by kernel_rfl) (by simp) ?_
                    refine AllReadyIn.cons rfl (fun K hK => ?_) ?_
                    · go_simp
                      refine hK _ _ ?_
                      clear hK K
                      refine wpAnyIn_done (by kernel_rfl) ?_ _
                      exact key
                    exact AllReadyIn.nil
                  exact AllReadyIn.nil
                exact AllReadyIn.nil
              exact AllReadyIn.nil
            exact AllReadyIn.nil
          refine AllReadyIn.cons rfl (fun K hK => ?_) ?_
          · go_simp
            refine hK _ _ ?_
            clear hK K
            refine wpAnyIn_ready (rs := [0, 1]) (by kernel_rfl) (by simp) ?_
            refine AllReadyIn.cons rfl (fun K hK => ?_) ?_
            · go_simp
              refine hK _ _ ?_
              clear hK K
              refine wpAnyIn_ready (rs := [1]) (by kernel_rfl) (by simp) ?_
              refine AllReadyIn.cons rfl (fun K hK => ?_) ?_
              · go_simp
                refine hK _ _ ?_
                clear hK K
                refine wpAnyIn_ready (rs := [3]) (by kernel_rfl) (by simp) ?_
                refine AllReadyIn.cons rfl (fun K hK => ?_) ?_
                · go_simp
                  refine hK _ _ ?_
                  clear hK K
                  refine wpAnyIn_ready (rs := [4]) (by kernel_rfl) (by simp) ?_
                  refine AllReadyIn.cons rfl (fun K hK => ?_) ?_
                  · refine step_append_in rfl (.tmp 27) (.tmp 30) 40 rfl _ _ _ _ rfl rfl hrun1 ?_
                    refine hK _ _ ?_
                    clear hK K
                    refine wpAnyIn_ready (rs := [5]) (by kernel_rfl) (by simp) ?_
                    refine AllReadyIn.cons rfl (fun K hK => ?_) ?_
                    · go_simp
                      refine hK _ _ ?_
                      clear hK K
                      refine wpAnyIn_done (by kernel_rfl) ?_ _
                      exact key
                    exact AllReadyIn.nil
                  exact AllReadyIn.nil
                exact AllReadyIn.nil
              exact AllReadyIn.nil
            refine AllReadyIn.cons rfl (fun K hK => ?_) ?_
            · go_simp
              refine hK _ _ ?_
              clear hK K
              refine wpAnyIn_ready (rs := [0, 3]) (by kernel_rfl) (by simp) ?_
              refine AllReadyIn.cons rfl (fun K hK => ?_) ?_
              · go_simp
                refine hK _ _ ?_
                clear hK K
                refine wpAnyIn_ready (rs := [3]) (by kernel_rfl) (by simp) ?_
                refine AllReadyIn.cons rfl (fun K hK => ?_) ?_
                · go_simp
                  refine hK _ _ ?_
                  clear hK K
                  refine wpAnyIn_ready (rs := [4]) (by kernel_rfl) (by simp) ?_
                  refine AllReadyIn.cons rfl (fun K hK => ?_) ?_
                  · refine step_append_in rfl (.tmp 27) (.tmp 30) 40 rfl _ _ _ _ rfl rfl hrun1 ?_
                    refine hK _ _ ?_
                    clear hK K
                    refine wpAnyIn_ready (rs := [5]) (by kernel_rfl) (by simp) ?_
                    refine AllReadyIn.cons rfl (fun K hK => ?_) ?_
                    · go_simp
                      refine hK _ _ ?_
                      clear hK K
                      refine wpAnyIn_done (by kernel_rfl) ?_ _
                      exact key
                    exact AllReadyIn.nil
                  exact AllReadyIn.nil
                exact AllReadyIn.nil
              refine AllReadyIn.cons rfl (fun K hK => ?_) ?_
              · go_simp
                refine hK _ _ ?_
                clear hK K
                refine wpAnyIn_ready (rs := [0]) (by kernel_rfl) (by simp) ?_
                refine AllReadyIn.cons rfl (fun K hK => ?_) ?_
                · go_simp
                  refine hK _ _ ?_
                  clear hK K
                  refine wpAnyIn_ready (rs := [4]) (by kernel_rfl) (by simp) ?_
                  refine AllReadyIn.cons rfl (fun K hK => ?_) ?_
                  · refine step_append_in rfl (.tmp 27) (.tmp 30) 40 rfl _ _ _ _ rfl rfl hrun1 ?_
                    refine hK _ _ ?_
                    clear hK K
                    refine wpAnyIn_ready (rs := [5]) (by kernel_rfl) (by simp) ?_
                    refine AllReadyIn.cons rfl (fun K hK => ?_) ?_
                    · go_simp
                      refine hK _ _ ?_
                      clear hK K
                      refine wpAnyIn_done (by kernel_rfl) ?_ _
                      exact key
                    exact AllReadyIn.nil
                  exact AllReadyIn.nil
                exact AllReadyIn.nil
              exact AllReadyIn.nil
            exact AllReadyIn.nil
          exact AllReadyIn.nil
      · rcases hlu with ⟨rfl, rfl⟩ | ⟨b, off, cap, rfl, hcap, hblt, hcR⟩
        · clear hlt
          have h1 := search_no (.slice none 0 0) [] x W
          rw [show plc (ltB x) [] = 0 from rfl] at h1
          gi_wp2_with fail
          refine ⟨trivial, (CallsIn.inRound l (callsIn_wide.2 (h1 hnu.out HUP.out (by simp) hx))).mono ?_⟩
          rintro e w' ⟨rfl, rfl⟩
          obtain ⟨a3, n3, c3, w1, hrun1, bv1, bv2, bl2, row2, ko2, bb2⟩ := app_step (P := P) (Pl := W'.heap.size) (u' := .slice none 0 0) (R := []) (show Boxed W.drew P _ v from hv) (show Boxed W.drew W'.heap.size _ _ from hul) (by omega) hrow.drew ⟨rfl, .inl ⟨rfl, rfl⟩⟩ (by simp; omega) (by show _ ≤ W.heap.size; omega) hP
          have cb1 := bv1.cell
          have fb1 := bv1.frozen
          have KO := Lib.hid ((KeepsOthers.drew W).trans ko2)
          have BB := Lib.hid (((Below.refl (w.heap.size + 3) W).drew).trans bb2)
          clear ko2 bb2
          gi_wp2_with fail
          rename_i Kr hKr
          have key : Kr { tmps := #[.agg #[.slice a S.length c], .agg #[.slice a' L.length c'], .pointer (some ⟨w.heap.size, 0, none⟩), .pointer (some ⟨w.heap.size + 1, 0, none⟩), .pointer (some ⟨w.heap.size + 1 + 1, 0, none⟩), .pointer (some ⟨P, 0, none⟩), .pointer (some ⟨W'.heap.size, 0, none⟩), .int .i64 x, .int .i64 0, .bool false, .agg #[.slice a S.length c], .int .i64 (S.length : Int), .agg #[.slice a' L.length c'], .int .i64 (L.length : Int), .int .i64 ((S.length : Int) + (L.length : Int)), .slice (some ⟨g, 0, none⟩) 0 N, .pointer (some ⟨w.heap.size + 1, 0, none⟩), .slice a' L.length c', .agg #[.slice a S.length c], .func (.func 50) #[] #[.pointer (some ⟨W'.heap.size + 1, 0, none⟩)], .int .i64 x, .tuple #[.int .i64 0, .bool false], .slice none 0 0, .int .i64 x, .tuple #[.int .i64 0, .bool false], .int .i64 0, .bool false, v, .slice none 0 0, .int .i64 0, .slice none 0 0, .slice a3 n3 c3, undef, undef, undef, undef, undef, undef, undef, undef, undef, undef, undef, undef, undef, undef], defers := [] } (w1.setCell ⟨P, 0, none⟩ (.slice a3 n3 c3)) := by
            refine hKr _ _ ?_
            clear hKr hrun1 cb1 fb1 bv1 hcu hcv
            generalize w1.setCell ⟨P, 0, none⟩ (.slice a3 n3 c3) = W2 at bv2 bl2 row2 KO BB ⊢
            have hs2 := BB.out.size
            obtain ⟨a4, n4, c4, w3, hrun2, bv3, bv4, bl4, row4, ko4, bb4⟩ := app_step (P := P) (Pl := W'.heap.size) (u' := .slice (some ⟨W2.heap.size, 0, none⟩) 1 1) (R := [x]) (bv2.alloc (.cells #[.int .i64 x] 3)) (bl2.alloc _) (by omega) (row2.alloc _) ⟨rfl, .inr ⟨W2.heap.size, 0, 1, rfl, Nat.le_refl _, by simp, cellsAt_new _ _ _⟩⟩ (by simp; omega) (by simp; omega) hP
            have cb2 := bv2.cell
            have cb3 := bv3.cell
            have fb3 := bv3.frozen
            have cl4 := bl4.cell
            have fl4 := bl4.frozen
            have KO4 := Lib.hid (((KO.out).trans (KeepsOthers.alloc W2 _)).trans ko4)
            have BB4 := Lib.hid ((BB.out.trans ((Below.refl (w.heap.size + 3) W2).alloc (by omega) _)).trans bb4)
            clear ko4 bb4
            gi_wp2_with (gi_at_builtin; refine wpListIn_append_run rfl _ _ 40 rfl _ _ _ _ rfl rfl hrun2 ?_)
            all_goals
              refine ⟨((KO4.out).trans (KeepsOthers.setCell _ _ _)).from _, BB4.out.setCell (p := ⟨W'.heap.size, 0, none⟩) (by show w.heap.size + 3 ≤ W'.heap.size; omega) _, ⟨⟨_, bv4.other (by omega) _, ?_⟩, ⟨_, bl4.set _, .inl ⟨rfl, by rw [HJ.out]; simp [jstep]⟩⟩⟩, hB.trans (BB4.out.setCell (p := ⟨W'.heap.size, 0, none⟩) (by show w.heap.size + 3 ≤ W'.heap.size; omega) _)⟩
              · have hrw := fun u => row4.kept (grownBy_setCell' _ W'.heap.size u) (.inr (bl4.not_row (show 40 ≠ 3 by decide) row4).symm)
                rw [HJ.out]
                refine ⟨?_, trivial⟩
                show World.ownsRow _ _ _ _ _ (M ++ (([] : List Int)).takeWhile (ltB x) ++ [x]).length ((M ++ (([] : List Int)).takeWhile (ltB x) ++ [x]).map numV)
                exact hrw _
          refine wpIn_region_any (by kernel_rfl) ?_
          change wpAnyIn _ _ _ _ _ _ _ _ _ (World.drew _)
          refine wpAnyIn_ready (rs := [0, 1, 2]) (by kernel_rfl) (by simp) ?_
          refine AllReadyIn.cons rfl (fun K hK => ?_) ?_
          · go_simp
            refine hK _ _ ?_
            clear hK K
            refine wpAnyIn_ready (rs := [1, 2]) (by kernel_rfl) (by simp) ?_
            refine AllReadyIn.cons rfl (fun K hK => ?_) ?_
            · go_simp
              refine hK _ _ ?_
              clear hK K
              refine wpAnyIn_ready (rs := [2]) (by kernel_rfl) (by simp) ?_
              refine AllReadyIn.cons rfl (fun K hK => ?_) ?_
              · go_simp
                refine hK _ _ ?_
                clear hK K
                refine wpAnyIn_ready (rs := [3]) (by kernel_rfl) (by simp) ?_
                refine AllReadyIn.cons rfl (fun K hK => ?_) ?_
                · go_simp
                  refine hK _ _ ?_
                  clear hK K
                  refine wpAnyIn_ready (rs := [4]) (by kernel_rfl) (by simp) ?_
                  refine AllReadyIn.cons rfl (fun K hK => ?_) ?_
                  · refine step_append_in rfl (.tmp 27) (.tmp 30) 40 rfl _ _ _ _ rfl rfl hrun1 ?_
                    refine hK _ _ ?_
                    clear hK K
                    refine wpAnyIn_ready (rs := [5]) (by kernel_rfl) (by simp) ?_
                    refine AllReadyIn.cons rfl (fun K hK => ?_) ?_
                    · go_simp
                      refine hK _ _ ?_
                      clear hK K
                      refine wpAnyIn_done (by kernel_rfl) ?_ _
                      exact key
                    exact AllReadyIn.nil
                  exact AllReadyIn.nil
                exact AllReadyIn.nil
              exact AllReadyIn.nil
            refine AllReadyIn.cons rfl (fun K hK => ?_) ?_
            · go_simp
              refine hK _ _ ?_
              clear hK K
              refine wpAnyIn_ready (rs := [1]) (by kernel_rfl) (by simp) ?_
              refine AllReadyIn.cons rfl (fun K hK => ?_) ?_
              · go_simp
                refine hK _ _ ?_
                clear hK K
                refine wpAnyIn_ready (rs := [3]) (by kernel_rfl) (by simp) ?_
                refine AllReadyIn.cons rfl (fun K hK => ?_) ?_
                · go_simp
                  refine hK _ _ ?_
                  clear hK K
                  refine wpAnyIn_ready (rs := [4]) (by kernel_rfl) (by simp) ?_
                  refine AllReadyIn.cons rfl (fun K hK => ?_) ?_
                  · refine step_append_in rfl (.tmp 27) (.tmp 30) 40 rfl _ _ _ _ rfl rfl hrun1 ?_
                    refine hK _ _ ?_
                    clear hK K
                    refine wpAnyIn_ready (rs := [5]) (by kernel_rfl) (by simp) ?_
                    refine AllReadyIn.cons rfl (fun K hK => ?_) ?_
                    · go_simp
                      refine hK _ _ ?_
                      clear hK K
                      refine wpAnyIn_done (by kernel_rfl) ?_ _
                      exact key
                    exact AllReadyIn.nil
                  exact AllReadyIn.nil
                exact AllReadyIn.nil
              exact AllReadyIn.nil
            exact AllReadyIn.nil
          refine AllReadyIn.cons rfl (fun K hK => ?_) ?_
          · go_simp
            refine hK _ _ ?_
            clear hK K
            refine wpAnyIn_ready (rs := [0, 2]) (by kernel_rfl) (by simp) ?_
            refine AllReadyIn.cons rfl (fun K hK => ?_) ?_
            · go_simp
              refine hK _ _ ?_
              clear hK K
              refine wpAnyIn_ready (rs := [2]) (by kernel_rfl) (by simp) ?_
              refine AllReadyIn.cons rfl (fun K hK => ?_) ?_
              · go_simp
                refine hK _ _ ?_
                clear hK K
                refine wpAnyIn_ready (rs := [3]) (by kernel_rfl) (by simp) ?_
                refine AllReadyIn.cons rfl (fun K hK => ?_) ?_
                · go_simp
                  refine hK _ _ ?_
                  clear hK K
                  refine wpAnyIn_ready (rs := [4]) (by kernel_rfl) (by simp) ?_
                  refine AllReadyIn.cons rfl (fun K hK => ?_) ?_
                  · refine step_append_in rfl (.tmp 27) (.tmp 30) 40 rfl _ _ _ _ rfl rfl hrun1 ?_
                    refine hK _ _ ?_
                    clear hK K
                    refine wpAnyIn_ready (rs := [5]) (by kernel_rfl) (by simp) ?_
                    refine AllReadyIn.cons rfl (fun K hK => ?_) ?_
                    · go_simp
                      refine hK _ _ ?_
                      clear hK K
                      refine wpAnyIn_done (by kernel_rfl) ?_ _
                      exact key
                    exact AllReadyIn.nil
                  exact AllReadyIn.nil
                exact AllReadyIn.nil
              exact AllReadyIn.nil
            refine AllReadyIn.cons rfl (fun K hK => ?_) ?_
            · go_simp
              refine hK _ _ ?_
              clear hK K
              refine wpAnyIn_ready (rs := [0, 3]) (by kernel_rfl) (by simp) ?_
              refine AllReadyIn.cons rfl (fun K hK => ?_) ?_
              · go_simp
                refine hK _ _ ?_
                clear hK K
                refine wpAnyIn_ready (rs := [3]) (by kernel_rfl) (by simp) ?_
                refine AllReadyIn.cons rfl (fun K hK => ?_) ?_
                · go_simp
                  refine hK _ _ ?_
                  clear hK K
                  refine wpAnyIn_ready (rs := [4]) (by kernel_rfl) (by simp) ?_
                  refine AllReadyIn.cons rfl (fun K hK => ?_) ?_
                  · refine step_append_in rfl (.tmp 27) (.tmp 30) 40 rfl _ _ _ _ rfl rfl hrun1 ?_
                    refine hK _ _ ?_
                    clear hK K
                    refine wpAnyIn_ready (rs := [5]) (by kernel_rfl) (by simp) ?_
                    refine AllReadyIn.cons rfl (fun K hK => ?_) ?_
                    · go_simp
                      refine hK _ _ ?_
                      clear hK K
                      refine wpAnyIn_done (by kernel_rfl) ?_ _
                      exact key
                    exact AllReadyIn.nil
                  exact AllReadyIn.nil
                exact AllReadyIn.nil
              refine AllReadyIn.cons rfl (fun K hK => ?_) ?_
              · go_simp
                refine hK _ _ ?_
                clear hK K
                refine wpAnyIn_ready (rs := [0]) (by kernel_rfl) (by simp) ?_
                refine AllReadyIn.cons rfl (fun K hK => ?_) ?_
                · go_simp
                  refine hK _ _ ?_
                  clear hK K
                  refine wpAnyIn_ready (rs := [4]) (by kernel_rfl) (by simp) ?_
                  refine AllReadyIn.cons rfl (fun K hK => ?_) ?_
                  · refine step_append_in rfl (.tmp 27) (.tmp 30) 40 rfl _ _ _ _ rfl rfl hrun1 ?_
                    refine hK _ _ ?_
                    clear hK K
                    refine wpAnyIn_ready (rs := [5]) (by kernel_rfl) (by simp) ?_
                    refine AllReadyIn.cons rfl (fun K hK => ?_) ?_
                    · go_simp
                      refine hK _ _ ?_
                      clear hK K
                      refine wpAnyIn_done (by kernel_rfl) ?_ _
                      exact key
                    exact AllReadyIn.nil
                  exact AllReadyIn.nil
                exact AllReadyIn.nil
              exact AllReadyIn.nil
            exact AllReadyIn.nil
          refine AllReadyIn.cons rfl (fun K hK => ?_) ?_
          · go_simp
            refine hK _ _ ?_
            clear hK K
            refine wpAnyIn_ready (rs := [0, 1]) (by kernel_rfl) (by simp) ?_
            refine AllReadyIn.cons rfl (fun K hK => ?_) ?_
            · go_simp
              refine hK _ _ ?_
              clear hK K
              refine wpAnyIn_ready (rs := [1]) (by kernel_rfl) (by simp) ?_
              refine AllReadyIn.cons rfl (fun K hK => ?_) ?_
              · go_simp
                refine hK _ _ ?_
                clear hK K
                refine wpAnyIn_ready (rs := [3]) (by kernel_rfl) (by simp) ?_
                refine AllReadyIn.cons rfl (fun K hK => ?_) ?_
                · go_simp
                  refine hK _ _ ?_
                  clear hK K
                  refine wpAnyIn_ready (rs := [4]) (by kernel_rfl) (by simp) ?_
                  refine AllReadyIn.cons rfl (fun K hK => ?_) ?_
                  · refine step_append_in rfl (.tmp 27) (.tmp 30) 40 rfl _ _ _ _ rfl rfl hrun1 ?_
                    refine hK _ _ ?_
                    clear hK K
                    refine wpAnyIn_ready (rs := [5]) (by kernel_rfl) (by simp) ?_
                    refine AllReadyIn.cons rfl (fun K hK => ?_) ?_
                    · go_simp
                      refine hK _ _ ?_
                      clear hK K
                      refine wpAnyIn_done (by kernel_rfl) ?_ _
                      exact key
                    exact AllReadyIn.nil
                  exact AllReadyIn.nil
                exact AllReadyIn.nil
              exact AllReadyIn.nil
            refine AllReadyIn.cons rfl (fun K hK => ?_) ?_
            · go_simp
              refine hK _ _ ?_
              clear hK K
              refine wpAnyIn_ready (rs := [0, 3]) (by kernel_rfl) (by simp) ?_
              refine AllReadyIn.cons rfl (fun K hK => ?_) ?_
              · go_simp
                refine hK _ _ ?_
                clear hK K
                refine wpAnyIn_ready (rs := [3]) (by kernel_rfl) (by simp) ?_
                refine AllReadyIn.cons rfl (fun K hK => ?_) ?_
                · go_simp
                  refine hK _ _ ?_
                  clear hK K
                  refine wpAnyIn_ready (rs := [4]) (by kernel_rfl) (by simp) ?_
                  refine AllReadyIn.cons rfl (fun K hK => ?_) ?_
                  · refine step_append_in rfl (.tmp 27) (.tmp 30) 40 rfl _ _ _ _ rfl rfl hrun1 ?_
                    refine hK _ _ ?_
                    clear hK K
                    refine wpAnyIn_ready (rs := [5]) (by kernel_rfl) (by simp) ?_
                    refine AllReadyIn.cons rfl (fun K hK => ?_) ?_
                    · go_simp
                      refine hK _ _ ?_
                      clear hK K
                      refine wpAnyIn_done (by kernel_rfl) ?_ _
                      exact key
                    exact AllReadyIn.nil
                  exact AllReadyIn.nil
                exact AllReadyIn.nil
              refine AllReadyIn.cons rfl (fun K hK => ?_) ?_
              · go_simp
                refine hK _ _ ?_
                clear hK K
                refine wpAnyIn_ready (rs := [0]) (by kernel_rfl) (by simp) ?_
                refine AllReadyIn.cons rfl (fun K hK => ?_) ?_
                · go_simp
                  refine hK _ _ ?_
                  clear hK K
                  refine wpAnyIn_ready (rs := [4]) (by kernel_rfl) (by simp) ?_
                  refine AllReadyIn.cons rfl (fun K hK => ?_) ?_
                  · refine step_append_in rfl (.tmp 27) (.tmp 30) 40 rfl _ _ _ _ rfl rfl hrun1 ?_
                    refine hK _ _ ?_
                    clear hK K
                    refine wpAnyIn_ready (rs := [5]) (by kernel_rfl) (by simp) ?_
                    refine AllReadyIn.cons rfl (fun K hK => ?_) ?_
                    · go_simp
                      refine hK _ _ ?_
                      clear hK K
                      refine wpAnyIn_done (by kernel_rfl) ?_ _
                      exact key
                    exact AllReadyIn.nil
                  exact AllReadyIn.nil
                exact AllReadyIn.nil
              exact AllReadyIn.nil
            exact AllReadyIn.nil
          exact AllReadyIn.nil
        · clear hlt
          gi_wp2_with fail
          refine ⟨trivial, (CallsIn.inRound l (callsIn_wide.2 (search_no _ R x _ hnu.out HUP.out (by omega) hx))).mono ?_⟩
          rintro e w' ⟨rfl, rfl⟩
          have hp := plc_le (ltB x) R
          have hpc : plc (ltB x) R ≤ cap := by omega
          have hbW : b < W.heap.size := by omega
          obtain ⟨a3, n3, c3, w1, hrun1, bv1, bv2, bl2, row2, ko2, bb2⟩ := app_step (P := P) (Pl := W'.heap.size) (u' := .slice (some ⟨b, off, none⟩) (plc (ltB x) R) cap) (R := R.take (plc (ltB x) R)) (show Boxed W.drew P _ v from hv) (show Boxed W.drew W'.heap.size _ _ from hul) (by omega) hrow.drew (lies_take hp hcap hbW (hcR.below hB.drew hblt)) (by simp; omega) (by show _ ≤ W.heap.size; omega) hP
          have cb1 := bv1.cell
          have fb1 := bv1.frozen
          have KO := Lib.hid ((KeepsOthers.drew W).trans ko2)
          have BB := Lib.hid (((Below.refl (w.heap.size + 3) W).drew).trans bb2)
          clear ko2 bb2
          gi_wp2_with fail
          rename_i Kr hKr
          have key : Kr { tmps := #[.agg #[.slice a S.length c], .agg #[.slice a' L.length c'], .pointer (some ⟨w.heap.size, 0, none⟩), .pointer (some ⟨w.heap.size + 1, 0, none⟩), .pointer (some ⟨w.heap.size + 1 + 1, 0, none⟩), .pointer (some ⟨P, 0, none⟩), .pointer (some ⟨W'.heap.size, 0, none⟩), .int .i64 x, .int .i64 (plc (ltB x) R : Nat), .bool false, .agg #[.slice a S.length c], .int .i64 (S.length : Int), .agg #[.slice a' L.length c'], .int .i64 (L.length : Int), .int .i64 ((S.length : Int) + (L.length : Int)), .slice (some ⟨g, 0, none⟩) 0 N, .pointer (some ⟨w.heap.size + 1, 0, none⟩), .slice a' L.length c', .agg #[.slice a S.length c], .func (.func 50) #[] #[.pointer (some ⟨W'.heap.size + 1, 0, none⟩)], .int .i64 x, .tuple #[.int .i64 (plc (ltB x) R : Nat), .bool false], .slice (some ⟨b, off, none⟩) R.length cap, .int .i64 x, .tuple #[.int .i64 (plc (ltB x) R : Nat), .bool false], .int .i64 (plc (ltB x) R : Nat), .bool false, v, .slice (some ⟨b, off, none⟩) R.length cap, .int .i64 (plc (ltB x) R : Nat), .slice (some ⟨b, off, none⟩) (plc (ltB x) R) cap, .slice a3 n3 c3, undef, undef, undef, undef, undef, undef, undef, undef, undef, undef, undef, undef, undef, undef], defers := [] } (w1.setCell ⟨P, 0, none⟩ (.slice a3 n3 c3)) := by
            refine hKr _ _ ?_
            clear hKr hrun1 cb1 fb1 bv1 hcu hcv
            generalize w1.setCell ⟨P, 0, none⟩ (.slice a3 n3 c3) = W2 at bv2 bl2 row2 KO BB ⊢
            have hs2 := BB.out.size
            obtain ⟨a4, n4, c4, w3, hrun2, bv3, bv4, bl4, row4, ko4, bb4⟩ := app_step (P := P) (Pl := W'.heap.size) (u' := .slice (some ⟨W2.heap.size, 0, none⟩) 1 1) (R := [x]) (bv2.alloc (.cells #[.int .i64 x] 3)) (bl2.alloc _) (by omega) (row2.alloc _) ⟨rfl, .inr ⟨W2.heap.size, 0, 1, rfl, Nat.le_refl _, by simp, cellsAt_new _ _ _⟩⟩ (by simp; omega) (by simp; omega) hP
            have cb2 := bv2.cell
            have cb3 := bv3.cell
            have fb3 := bv3.frozen
            have cl4 := bl4.cell
            have fl4 := bl4.frozen
            have KO4 := Lib.hid (((KO.out).trans (KeepsOthers.alloc W2 _)).trans ko4)
            have BB4 := Lib.hid ((BB.out.trans ((Below.refl (w.heap.size + 3) W2).alloc (by omega) _)).trans bb4)
            clear ko4 bb4
            gi_wp2_with (gi_at_builtin; refine wpListIn_append_run rfl _ _ 40 rfl _ _ _ _ rfl rfl hrun2 ?_)
            all_goals
              refine ⟨((KO4.out).trans (KeepsOthers.setCell _ _ _)).from _, BB4.out.setCell (p := ⟨W'.heap.size, 0, none⟩) (by show w.heap.size + 3 ≤ W'.heap.size; omega) _, ⟨⟨_, bv4.other (by omega) _, ?_⟩, ⟨_, bl4.set _, ?_⟩⟩, hB.trans (BB4.out.setCell (p := ⟨W'.heap.size, 0, none⟩) (by show w.heap.size + 3 ≤ W'.heap.size; omega) _)⟩
              · have hrw := fun u => row4.kept (grownBy_setCell' _ W'.heap.size u) (.inr (bl4.not_row (show 40 ≠ 3 by decide) row4).symm)
                rw [HJ.out]
                show World.ownsRow _ _ _ _ _ (M ++ (R).takeWhile (ltB x) ++ [x]).length ((M ++ (R).takeWhile (ltB x) ++ [x]).map numV)
                rw [← take_plc]
                exact hrw _
              · have hld := lies_drop (W := W') (n₀ := w.heap.size + 3) (b := b) (off := off) (cap := cap) (p := (plc (ltB x) R)) (R := R) (by omega) hcap hblt hcR
                rw [HJ.out]
                show LiesIn W' _ _ (R.drop (plc (ltB x) R + if x ∈ R then 1 else 0))
                rw [if_neg hx, Nat.add_zero]
                first | exact hld | (rw [if_pos (by assumption)] at hld; exact hld) | (rw [if_neg (by assumption)] at hld; exact hld) | (rw [if_pos (by assumption), show cap - (plc (ltB x) R) = 0 by omega] at hld; exact hld) | (simpa using hld)
          refine wpIn_region_any (by kernel_rfl) ?_
          change wpAnyIn _ _ _ _ _ _ _ _ _ (World.drew _)
          refine wpAnyIn_ready (rs := [0, 1, 2]) (by kernel_rfl) (by simp) ?_
          refine AllReadyIn.cons rfl (fun K hK => ?_) ?_
          · go_simp
            refine hK _ _ ?_
            clear hK K
            refine wpAnyIn_ready (rs := [1, 2]) (by kernel_rfl) (by simp) ?_
            refine AllReadyIn.cons rfl (fun K hK => ?_) ?_
            · go_simp
              refine hK _ _ ?_
              clear hK K
              refine wpAnyIn_ready (rs := [2]) (by kernel_rfl) (by simp) ?_
              refine AllReadyIn.cons rfl (fun K hK => ?_) ?_
              · go_simp
                refine hK _ _ ?_
                clear hK K
                refine wpAnyIn_ready (rs := [3]) (by kernel_rfl) (by simp) ?_
                refine AllReadyIn.cons rfl (fun K hK => ?_) ?_
                · go_simp
                  refine hK _ _ ?_
                  clear hK K
                  refine wpAnyIn_ready (rs := [4]) (by kernel_rfl) (by simp) ?_
                  refine AllReadyIn.cons rfl (fun K hK => ?_) ?_
                  · refine step_append_in rfl (.tmp 27) (.tmp 30) 40 rfl _ _ _ _ rfl rfl hrun1 ?_
                    refine hK _ _ ?_
                    clear hK K
                    refine wpAnyIn_ready (rs := [5]) (by kernel_rfl) (by simp) ?_
                    refine AllReadyIn.cons rfl (fun K hK => ?_) ?_
                    · go_simp
                      refine hK _ _ ?_
                      clear hK K
                      refine wpAnyIn_done (by kernel_rfl) ?_ _
                      exact key
                    exact AllReadyIn.nil
                  exact AllReadyIn.nil
                exact AllReadyIn.nil
              exact AllReadyIn.nil
            refine AllReadyIn.cons rfl (fun K hK => ?_) ?_
            · go_simp
              refine hK _ _ ?_
              clear hK K
              refine wpAnyIn_ready (rs := [1]) (by kernel_rfl) (by simp) ?_
              refine AllReadyIn.cons rfl (fun K hK => ?_) ?_
              · go_simp
                refine hK _ _ ?_
                clear hK K
                refine wpAnyIn_ready (rs := [3]) (by kernel_rfl) (by simp) ?_
                refine AllReadyIn.cons rfl (fun K hK => ?_) ?_
                · go_simp
                  refine hK _ _ ?_
                  clear hK K
                  refine wpAnyIn_ready (rs := [4]) (by kernel_rfl) (by simp) ?_
                  refine AllReadyIn.cons rfl (fun K hK => ?_) ?_
                  · refine step_append_in rfl (.tmp 27) (.tmp 30) 40 rfl _ _ _ _ rfl rfl hrun1 ?_
                    refine hK _ _ ?_
                    clear hK K
                    refine wpAnyIn_ready (rs := [5]) (by kernel_rfl) (by simp) ?_
                    refine AllReadyIn.cons rfl (fun K hK => ?_) ?_
                    · go_simp
                      refine hK _ _ ?_
                      clear hK K
                      refine wpAnyIn_done (by kernel_rfl) ?_ _
                      exact key
                    exact AllReadyIn.nil
                  exact AllReadyIn.nil
                exact AllReadyIn.nil
              exact AllReadyIn.nil
            exact AllReadyIn.nil
          refine AllReadyIn.cons rfl (fun K hK => ?_) ?_
          · go_simp
            refine hK _ _ ?_
            clear hK K
            refine wpAnyIn_ready (rs := [0, 2]) (by kernel_rfl) (by simp) ?_
            refine AllReadyIn.cons rfl (fun K hK => ?_) ?_
            · go_simp
              refine hK _ _ ?_
              clear hK K
              refine wpAnyIn_ready (rs := [2]) (by kernel_rfl) (by simp) ?_
              refine AllReadyIn.cons rfl (fun K hK => ?_) ?_
              · go_simp
                refine hK _ _ ?_
                clear hK K
                refine wpAnyIn_ready (rs := [3]) (by kernel_rfl) (by simp) ?_
                refine AllReadyIn.cons rfl (fun K hK => ?_) ?_
                · go_simp
                  refine hK _ _ ?_
                  clear hK K
                  refine wpAnyIn_ready (rs := [4]) (by kernel_rfl) (by simp) ?_
                  refine AllReadyIn.cons rfl (fun K hK => ?_) ?_
                  · refine step_append_in rfl (.tmp 27) (.tmp 30) 40 rfl _ _ _ _ rfl rfl hrun1 ?_
                    refine hK _ _ ?_
                    clear hK K
                    refine wpAnyIn_ready (rs := [5]) (by kernel_rfl) (by simp) ?_
                    refine AllReadyIn.cons rfl (fun K hK => ?_) ?_
                    · go_simp
                      refine hK _ _ ?_
                      clear hK K
                      refine wpAnyIn_done (by kernel_rfl) ?_ _
                      exact key
                    exact AllReadyIn.nil
                  exact AllReadyIn.nil
                exact AllReadyIn.nil
              exact AllReadyIn.nil
            refine AllReadyIn.cons rfl (fun K hK => ?_) ?_
            · go_simp
              refine hK _ _ ?_
              clear hK K
              refine wpAnyIn_ready (rs := [0, 3]) (by kernel_rfl) (by simp) ?_
              refine AllReadyIn.cons rfl (fun K hK => ?_) ?_
              · go_simp
                refine hK _ _ ?_
                clear hK K
                refine wpAnyIn_ready (rs := [3]) (by kernel_rfl) (by simp) ?_
                refine AllReadyIn.cons rfl (fun K hK => ?_) ?_
                · go_simp
                  refine hK _ _ ?_
                  clear hK K
                  refine wpAnyIn_ready (rs := [4]) (by kernel_rfl) (by simp) ?_
                  refine AllReadyIn.cons rfl (fun K hK => ?_) ?_
                  · refine step_append_in rfl (.tmp 27) (.tmp 30) 40 rfl _ _ _ _ rfl rfl hrun1 ?_
                    refine hK _ _ ?_
                    clear hK K
                    refine wpAnyIn_ready (rs := [5]) (by kernel_rfl) (by simp) ?_
                    refine AllReadyIn.cons rfl (fun K hK => ?_) ?_
                    · go_simp
                      refine hK _ _ ?_
                      clear hK K
                      refine wpAnyIn_done (by kernel_rfl) ?_ _
                      exact key
                    exact AllReadyIn.nil
                  exact AllReadyIn.nil
                exact AllReadyIn.nil
              refine AllReadyIn.cons rfl (fun K hK => ?_) ?_
              · go_simp
                refine hK _ _ ?_
                clear hK K
                refine wpAnyIn_ready (rs := [0]) (by kernel_rfl) (by simp) ?_
                refine AllReadyIn.cons rfl (fun K hK => ?_) ?_
                · go_simp
                  refine hK _ _ ?_
                  clear hK K
                  refine wpAnyIn_ready (rs := [4]) (by kernel_rfl) (by simp) ?_
                  refine AllReadyIn.cons rfl (fun K hK => ?_) ?_
                  · refine step_append_in rfl (.tmp 27) (.tmp 30) 40 rfl _ _ _ _ rfl rfl hrun1 ?_
                    refine hK _ _ ?_
                    clear hK K
                    refine wpAnyIn_ready (rs := [5]) (by kernel_rfl) (by simp) ?_
                    refine AllReadyIn.cons rfl (fun K hK => ?_) ?_
                    · go_simp
                      refine hK _ _ ?_
                      clear hK K
                      refine wpAnyIn_done (by kernel_rfl) ?_ _
                      exact key
                    exact AllReadyIn.nil
                  exact AllReadyIn.nil
                exact AllReadyIn.nil
              exact AllReadyIn.nil
            exact AllReadyIn.nil
          refine AllReadyIn.cons rfl (fun K hK => ?_) ?_
          · go_simp
            refine hK _ _ ?_
            clear hK K
            refine wpAnyIn_ready (rs := [0, 1]) (by kernel_rfl) (by simp) ?_
            refine AllReadyIn.cons rfl (fun K hK => ?_) ?_
            · go_simp
              refine hK _ _ ?_
              clear hK K
              refine wpAnyIn_ready (rs := [1]) (by kernel_rfl) (by simp) ?_
              refine AllReadyIn.cons rfl (fun K hK => ?_) ?_
              · go_simp
                refine hK _ _ ?_
                clear hK K
                refine wpAnyIn_ready (rs := [3]) (by kernel_rfl) (by simp) ?_
                refine AllReadyIn.cons rfl (fun K hK => ?_) ?_
                · go_simp
                  refine hK _ _ ?_
                  clear hK K
                  refine wpAnyIn_ready (rs := [4]) (by kernel_rfl) (by simp) ?_
                  refine AllReadyIn.cons rfl (fun K hK => ?_) ?_
                  · refine step_append_in rfl (.tmp 27) (.tmp 30) 40 rfl _ _ _ _ rfl rfl hrun1 ?_
                    refine hK _ _ ?_
                    clear hK K
                    refine wpAnyIn_ready (rs := [5]) (by kernel_rfl) (by simp) ?_
                    refine AllReadyIn.cons rfl (fun K hK => ?_) ?_
                    · go_simp
                      refine hK _ _ ?_
                      clear hK K
                      refine wpAnyIn_done (by kernel_rfl) ?_ _
                      exact key
                    exact AllReadyIn.nil
                  exact AllReadyIn.nil
                exact AllReadyIn.nil
              exact AllReadyIn.nil
            refine AllReadyIn.cons rfl (fun K hK => ?_) ?_
            · go_simp
              refine hK _ _ ?_
              clear hK K
              refine wpAnyIn_ready (rs := [0, 3]) (by kernel_rfl) (by simp) ?_
              refine AllReadyIn.cons rfl (fun K hK => ?_) ?_
              · go_simp
                refine hK _ _ ?_
                clear hK K
                refine wpAnyIn_ready (rs := [3]) (by kernel_rfl) (by simp) ?_
                refine AllReadyIn.cons rfl (fun K hK => ?_) ?_
                · go_simp
                  refine hK _ _ ?_
                  clear hK K
                  refine wpAnyIn_ready (rs := [4]) (by kernel_rfl) (by simp) ?_
                  refine AllReadyIn.cons rfl (fun K hK => ?_) ?_
                  · refine step_append_in rfl (.tmp 27) (.tmp 30) 40 rfl _ _ _ _ rfl rfl hrun1 ?_
                    refine hK _ _ ?_
                    clear hK K
                    refine wpAnyIn_ready (rs := [5]) (by kernel_rfl) (by simp) ?_
                    refine AllReadyIn.cons rfl (fun K hK => ?_) ?_
                    · go_simp
                      refine hK _ _ ?_
                      clear hK K
                      refine wpAnyIn_done (by kernel_rfl) ?_ _
                      exact key
                    exact AllReadyIn.nil
                  exact AllReadyIn.nil
                exact AllReadyIn.nil
              refine AllReadyIn.cons rfl (fun K hK => ?_) ?_
              · go_simp
                refine hK _ _ ?_
                clear hK K
                refine wpAnyIn_ready (rs := [0]) (by kernel_rfl) (by simp) ?_
                refine AllReadyIn.cons rfl (fun K hK => ?_) ?_
                · go_simp
                  refine hK _ _ ?_
                  clear hK K
                  refine wpAnyIn_ready (rs := [4]) (by kernel_rfl) (by simp) ?_
                  refine AllReadyIn.cons rfl (fun K hK => ?_) ?_
                  · refine step_append_in rfl (.tmp 27) (.tmp 30) 40 rfl _ _ _ _ rfl rfl hrun1 ?_
                    refine hK _ _ ?_
                    clear hK K
                    refine wpAnyIn_ready (rs := [5]) (by kernel_rfl) (by simp) ?_
                    refine AllReadyIn.cons rfl (fun K hK => ?_) ?_
                    · go_simp
                      refine hK _ _ ?_
                      clear hK K
                      refine wpAnyIn_done (by kernel_rfl) ?_ _
                      exact key
                    exact AllReadyIn.nil
                  exact AllReadyIn.nil
                exact AllReadyIn.nil
              exact AllReadyIn.nil
            exact AllReadyIn.nil
          exact AllReadyIn.nil
    case done =>
      rintro D ys W hD rfl ⟨⟨⟨v, hv, hrow, _⟩, ⟨u, hul, hlu⟩⟩, hB⟩ hK
      have hc := hv.cell
      have hcu := hul.cell
      have hbs := hB.size
      have hD : w.heap.size + 3 ≤ D := by simp at hD; omega
      obtain ⟨hup, hlen⟩ := jfold_facts ys L HU'.out
      have HA := Lib.hid (jfold_all ys L)
      have hnu : NumsIn W u (jfold L ys).2 := (hlu.below hB).nums (by omega)
      obtain ⟨v', w1, hrun, hown, hgrow⟩ := run_append_src W (w.heap.size + 3) 40 v u _ _ hrow hnu (by omega) (by omega)
      have br : Boxed w1 (w.heap.size + 1 + 1) 43 (.slice none 0 0) := (boxed_below (boxed_below b2' B' (by omega)) hB (by omega)).kept hgrow ((boxed_below (boxed_below b2' B' (by omega)) hB (by omega)).not_row (by decide) hrow)
      have hK1 : w1.heap[D]? = some (.deferred (some [])) := (KeepsOthers.of_grownBy hgrow fun j o ej hj => by
        rcases hrow.2 with ⟨rfl, _⟩ | ⟨g, cap, cur, rfl, _, hgb, _⟩
        · simp [Value.ownBlock] at ej
        · simp [Value.ownBlock] at ej
          subst ej
          rw [hgb] at hj
          cases hj; rfl).same D _ hK rfl
      have B1 : Below (w.heap.size + 3) W w1 := (Below.refl _ W).grown hgrow (by omega) (fun j e => own_base3 hrow j e)
      have cr := br.cell
      have fr := br.frozen
      have hf : ∃ a3 n3 c3, v' = .slice a3 n3 c3 := by
        rcases hown.2 with ⟨rfl, _⟩ | ⟨g, cap, cur, rfl, _⟩
        · exact ⟨_, _, _, rfl⟩
        · exact ⟨_, _, _, rfl⟩
      obtain ⟨a3, n3, c3, rfl⟩ := hf
      rw [HA.out] at hown
      have hform : ∃ a n c, u = .slice a n c := by
        rcases hnu.2 with ⟨rfl, _⟩ | ⟨b, off, cap, rfl, _⟩
        · exact ⟨_, _, _, rfl⟩
        · exact ⟨_, _, _, rfl⟩
      obtain ⟨a5, n5, c5, rfl⟩ := hform
      have RW := Lib.hid hown
      have JF := Lib.hid hgrow
      clear hown hgrow hrow hnu hlu hup hlen
      gi_wp2_with (gi_at_builtin; refine wpListIn_append_run rfl _ _ 40 rfl _ _ _ _ rfl rfl hrun ?_)
      have hK' : ∀ u, (w1.setCell ⟨w.heap.size + 1 + 1, 0, none⟩ u).heap[D]? = some (.deferred (some [])) := fun u => (KeepsOthers.setCell w1 ⟨w.heap.size + 1 + 1, 0, none⟩ u).same D _ hK1 rfl
      refine ⟨by simp, .inl ⟨_, _, rfl, run_takeDeferred (hK' _), ?_⟩⟩
      have k1 : ∀ u, ((w1.setCell ⟨w.heap.size + 1 + 1, 0, none⟩ u).putObj D (.deferred none)).cell? ⟨w.heap.size + 1 + 1, 0, none⟩ = some u := fun u => cell_kept (br.set u).cell (grownBy_putObj' _ D (.deferred none)) (fun r e => by cases e; exact ⟨_, hK' u, rfl⟩)
      refine ⟨.agg #[.slice a3 n3 c3], ?_, _, rfl, ⟨⟨_, rfl, (own_setCell RW.out ⟨w.heap.size + 1 + 1, 0, none⟩ _ (by show w.heap.size + 1 + 1 < w.heap.size + 3; omega)).putObj (.deferred none) (hK' _) rfl⟩, up_jnZ HU.out HU'.out⟩, (BW.trans ((hB.trans B1).mono (by omega))).trans (((Below.refl w.heap.size w1).setCell (p := ⟨w.heap.size + 1 + 1, 0, none⟩) (by show w.heap.size ≤ w.heap.size + 1 + 1; omega) _).trans (belowK_b (w := w) (Nat.le_refl _) _ D _ _ (by omega) (hK' _) rfl rfl))⟩
      simp [results, Try.f19, go_sem, k1]
    case stop =>
      rintro D c pre W _ _ h _
      exact h.elim
  have HR := Lib.hid hrest
  clear hrest hKx
  go_region_with (go_at_call 36; refine (set_Len_at _ _ _ _).mono ?_; rintro e w' ⟨rfl, rfl⟩)
  all_goals
    refine HR.out _ _ _ ⟨?_, ?_, ⟨mk, HMS.out, ?_⟩, by omega, by omega⟩
    · exact ((((((Below.refl _ W3).alloc (Nat.le_refl _) _).alloc (by simp) _).alloc (by simp; omega) _).alloc (by simp; omega) _)).drew
    all_goals
      show (World.alloc _ _).heap[_]? = _
      repeat (first | rw [heap_alloc_at, if_pos (by first | omega | (simp only [World.size_alloc]; omega))] | rw [heap_alloc_at, if_neg (by first | omega | (simp only [World.size_alloc]; omega))])

end Go.Proofs.Ytmfejpbijllojaa
