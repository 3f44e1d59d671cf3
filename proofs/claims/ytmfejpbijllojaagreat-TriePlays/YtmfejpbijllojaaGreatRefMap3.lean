/- The document's own answers of layer 3 on maps: Put and Drop. Made by tools/gen_refmap.py. -/
import Derived.Test.YtmfejpbijllojaaGreatLess3
import Derived.RegionIn
import Derived.Laws.AppendOwnNone
import Derived.Deep.RegionWith
import Derived.Deep.CutBlock
namespace Go.Proofs.YtmfejpbijllojaaGreat
open Go.RowKit Go.Shelf

theorem infoStr3 : (Tryz.prog.info? 9).map (fun i => (i.zero, i.size, i.bytes)) = some (some (.string ⟨#[]⟩), 1, 16) := by kernel_rfl
theorem grown_set (W : World) (O i : Nat) (u : Value) : W.grownBy (W.setCell ⟨O, i, none⟩ u) (some O) :=
  ⟨rfl, rfl, rfl, by simp [World.setCell], fun k _ hne => Below.heap_setCell _ _ _ _ (fun e => hne (by rw [show k = O from e]))⟩
/-- A block of another type is no row of this one. -/
theorem block_not_row {W : World} {O : Nat} {cs : Array Value} {t e : TypeId} {z : Nat × Nat} (h : W.heap[O]? = some (.cells cs t z)) (hte : t ≠ e) {base size k : Nat} {v : Value} {xs : List Value} (hr : W.ownsRow base e size v k xs) : some O ≠ v.ownBlock := by
  rcases hr.2 with ⟨rfl, _⟩ | ⟨g, cap, cur, rfl, _, hgb, _⟩
  · simp [Value.ownBlock]
  · intro e'
    simp [Value.ownBlock] at e'
    subst e'
    rw [h] at hgb
    cases hgb
    exact hte rfl
theorem rows_apart {W : World} {e e' : TypeId} (hte : e' ≠ e) {base size k base' size' k' : Nat} {v v' : Value} {xs xs' : List Value} (hr : W.ownsRow base e size v k xs) (hr' : W.ownsRow base' e' size' v' k' xs') : v'.ownBlock = none ∨ v'.ownBlock ≠ v.ownBlock := by
  rcases hr'.2 with ⟨rfl, _⟩ | ⟨g, cap, cur, rfl, _, hgb, _⟩
  · exact .inl rfl
  · exact .inr fun e => block_not_row hgb hte hr (by simpa [Value.ownBlock] using e)
/-- The map that is being made: its box, its keys, its values. -/
structure OutIn (W : World) (O : Nat) (ko vo : Value) (Ks : List Key) (Vs : List Int) : Prop where
  box : W.heap[O]? = some (.cells #[ko, vo] 61 (0, 0))
  keys : W.ownsRow O 9 1 ko Ks.length (Ks.map keyV)
  vals : W.ownsRow O 3 1 vo Vs.length (Vs.map numV)
theorem OutIn.cell0 {W : World} {O : Nat} {ko vo : Value} {Ks : List Key} {Vs : List Int} (h : OutIn W O ko vo Ks Vs) : W.cell? ⟨O, 0, none⟩ = some ko := by simp [World.cell?, h.box]
theorem OutIn.cell1 {W : World} {O : Nat} {ko vo : Value} {Ks : List Key} {Vs : List Int} (h : OutIn W O ko vo Ks Vs) : W.cell? ⟨O, 1, none⟩ = some vo := by simp [World.cell?, h.box]
theorem OutIn.lt {W : World} {O : Nat} {ko vo : Value} {Ks : List Key} {Vs : List Int} (h : OutIn W O ko vo Ks Vs) : O < W.heap.size := (Array.getElem?_eq_some_iff.1 h.box).1
theorem heap_set2 {W : World} {O : Nat} {x y : Value} {t : TypeId} (h : W.heap[O]? = some (.cells #[x, y] t (0, 0))) (u : Value) :
    (W.setCell ⟨O, 0, none⟩ u).heap[O]? = some (.cells #[u, y] t (0, 0)) ∧ (W.setCell ⟨O, 1, none⟩ u).heap[O]? = some (.cells #[x, u] t (0, 0)) := by
  obtain ⟨hlt, hk⟩ := Array.getElem?_eq_some_iff.1 h
  constructor
  · show (W.heap.modify O _)[O]? = _
    rw [Array.getElem?_eq_getElem (by rw [Array.size_modify]; exact hlt), Array.getElem_modify_self, hk]
    rfl
  · show (W.heap.modify O _)[O]? = _
    rw [Array.getElem?_eq_getElem (by rw [Array.size_modify]; exact hlt), Array.getElem_modify_self, hk]
    rfl

theorem key_step {W : World} {O : Nat} {ko vo : Value} {Ks : List Key} {Vs : List Int} (h : OutIn W O ko vo Ks Vs) (x : Key) (hbig : Ks.length ≤ 100000) :
    ∃ a3 n3 c3 w1, (Builtin.append_ #[29, 29] 29 #[ko, .slice (some ⟨W.heap.size, 0, none⟩) 1 1]).run Tryz.prog (W.alloc (.cells #[keyV x] 9)) = .ok (.slice a3 n3 c3) w1 ∧ w1.cell? ⟨O, 0, none⟩ = some ko ∧ w1.frozen? ⟨O, 0, none⟩ = false ∧
      OutIn (w1.setCell ⟨O, 0, none⟩ (.slice a3 n3 c3)) O (.slice a3 n3 c3) vo (Ks ++ [x]) Vs ∧ Below O W (w1.setCell ⟨O, 0, none⟩ (.slice a3 n3 c3)) ∧ Below O W w1 := by
  obtain ⟨i0, hi, hz0, hz1, hz2⟩ := info_parts infoStr3
  have hlt := h.lt
  obtain ⟨v', w1, hrun, hown', hgrow, _⟩ := run_append_own (P := Tryz.prog) (W.alloc (.cells #[keyV x] 9)) O 29 29 9 i0 (.string ⟨#[]⟩) 1 16 Tryz.underlying29 hi hz0 hz1 hz2 rfl (by decide) ko _ _ (h.keys.alloc _) ⟨W.heap.size, 0, none⟩ 1 1 [keyV x] rfl (cell_one_new _ _ _) (by simp [Value.oneCell']) (by simp only [maxLen]; omega) (by omega) (by simp; omega)
  have hf : ∃ a3 n3 c3, v' = .slice a3 n3 c3 := by
    rcases hown'.2 with ⟨rfl, _⟩ | ⟨g, cap, cur, rfl, _⟩
    · exact ⟨_, _, _, rfl⟩
    · exact ⟨_, _, _, rfl⟩
  obtain ⟨a3, n3, c3, rfl⟩ := hf
  have hown' : w1.ownsRow O 9 1 (.slice a3 n3 c3) (Ks ++ [x]).length ((Ks ++ [x]).map keyV) := by
    rw [List.length_append, List.map_append]; exact hown'
  have hba : (W.alloc (.cells #[keyV x] 9)).heap[O]? = some (.cells #[ko, vo] 61 (0, 0)) := (Below.heap_alloc _ _ _ hlt).trans h.box
  have hb1 : w1.heap[O]? = some (.cells #[ko, vo] 61 (0, 0)) := (hgrow.block O (by simp; omega) (block_not_row hba (by decide) (h.keys.alloc _))).trans hba
  have hoth1 := (h.vals.alloc (.cells #[keyV x] 9)).kept hgrow (rows_apart (by decide) h.keys h.vals)
  have hbw : Below O W w1 := ((Below.refl O W).alloc (by omega) _).grown hgrow (by simp; omega) (fun j e => own_base3 (h.keys.alloc (.cells #[keyV x] 9)) j e)
  exact ⟨a3, n3, c3, w1, hrun, by simp [World.cell?, hb1], by simp [World.frozen?, hb1], ⟨(heap_set2 hb1 _).1, (hown'.kept (grown_set w1 O 0 _) (.inr (block_not_row hb1 (by decide) hown').symm)), (hoth1.kept (grown_set w1 O 0 _) (.inr (block_not_row hb1 (by decide) hoth1).symm))⟩, hbw.setCell (p := ⟨O, 0, none⟩) (Nat.le_refl _) _, hbw⟩

theorem val_step {W : World} {O : Nat} {ko vo : Value} {Ks : List Key} {Vs : List Int} (h : OutIn W O ko vo Ks Vs) (x : Int) (hbig : Vs.length ≤ 100000) :
    ∃ a3 n3 c3 w1, (Builtin.append_ #[30, 30] 30 #[vo, .slice (some ⟨W.heap.size, 0, none⟩) 1 1]).run Tryz.prog (W.alloc (.cells #[numV x] 3)) = .ok (.slice a3 n3 c3) w1 ∧ w1.cell? ⟨O, 1, none⟩ = some vo ∧ w1.frozen? ⟨O, 1, none⟩ = false ∧
      OutIn (w1.setCell ⟨O, 1, none⟩ (.slice a3 n3 c3)) O ko (.slice a3 n3 c3) Ks (Vs ++ [x]) ∧ Below O W (w1.setCell ⟨O, 1, none⟩ (.slice a3 n3 c3)) ∧ Below O W w1 := by
  obtain ⟨i0, hi, hz0, hz1, hz2⟩ := info_parts infoInt
  have hlt := h.lt
  obtain ⟨v', w1, hrun, hown', hgrow, _⟩ := run_append_own (P := Tryz.prog) (W.alloc (.cells #[numV x] 3)) O 30 30 3 i0 (.int .i64 0) 1 8 Tryz.underlying30 hi hz0 hz1 hz2 rfl (by decide) vo _ _ (h.vals.alloc _) ⟨W.heap.size, 0, none⟩ 1 1 [numV x] rfl (cell_one_new _ _ _) (by simp [Value.oneCell']) (by simp only [maxLen]; omega) (by omega) (by simp; omega)
  have hf : ∃ a3 n3 c3, v' = .slice a3 n3 c3 := by
    rcases hown'.2 with ⟨rfl, _⟩ | ⟨g, cap, cur, rfl, _⟩
    · exact ⟨_, _, _, rfl⟩
    · exact ⟨_, _, _, rfl⟩
  obtain ⟨a3, n3, c3, rfl⟩ := hf
  have hown' : w1.ownsRow O 3 1 (.slice a3 n3 c3) (Vs ++ [x]).length ((Vs ++ [x]).map numV) := by
    rw [List.length_append, List.map_append]; exact hown'
  have hba : (W.alloc (.cells #[numV x] 3)).heap[O]? = some (.cells #[ko, vo] 61 (0, 0)) := (Below.heap_alloc _ _ _ hlt).trans h.box
  have hb1 : w1.heap[O]? = some (.cells #[ko, vo] 61 (0, 0)) := (hgrow.block O (by simp; omega) (block_not_row hba (by decide) (h.vals.alloc _))).trans hba
  have hoth1 := (h.keys.alloc (.cells #[numV x] 3)).kept hgrow (rows_apart (by decide) h.vals h.keys)
  have hbw : Below O W w1 := ((Below.refl O W).alloc (by omega) _).grown hgrow (by simp; omega) (fun j e => own_base3 (h.vals.alloc (.cells #[numV x] 3)) j e)
  exact ⟨a3, n3, c3, w1, hrun, by simp [World.cell?, hb1], by simp [World.frozen?, hb1], ⟨(heap_set2 hb1 _).2, (hoth1.kept (grown_set w1 O 1 _) (.inr (block_not_row hb1 (by decide) hoth1).symm)), (hown'.kept (grown_set w1 O 1 _) (.inr (block_not_row hb1 (by decide) hown').symm))⟩, hbw.setCell (p := ⟨O, 1, none⟩) (Nat.le_refl _) _, hbw⟩

theorem wpList_append_run {P : Program} {w : World} {ops : Array Oper} {rest : List Oper} {o : Oper} {a : Act} {Q : Exit → Act → World → Prop} (hgd : o.guard = none) (s x : Operand) (t : TypeId)
    (hop : o.op = Op.call { callee := Callee.builtin Builtin.append, args := #[s, x], argTypes := #[t, t] }) (v u v' : Value) (w' : World) (hs : a.eval s = v) (hx : a.eval x = u) (hrun : (Builtin.append_ #[t, t] o.type #[v, u]).run P w = .ok v' w')
    (h : wpList P ops Q rest (a.put o.dst v') w') : wpList P ops Q (o :: rest) a w := by
  refine wpList_plain hgd fun K hK' => ?_
  unfold Oper.wp
  simp [execOp, hop, resolve, invoke, builtin, hs, hx, hrun, Result.andThen]
  exact hK' _ _ h
theorem step_append_run {P : Program} {ops : Array Oper} {o : Oper} {a : Act} {w : World} {K : Act → World → Prop} {Q : Exit → Act → World → Prop} {E : Prop} (hgd : o.guard = none) (s x : Operand) (t : TypeId)
    (hop : o.op = Op.call { callee := Callee.builtin Builtin.append, args := #[s, x], argTypes := #[t, t] }) (v u v' : Value) (w' : World) (hs : a.eval s = v) (hx : a.eval x = u) (hrun : (Builtin.append_ #[t, t] o.type #[v, u]).run P w = .ok v' w') (hK : K (a.put o.dst v') w') :
    if Region.wanted o (yielded ops a.tmps) = true then Oper.wp P o a w K Q else E := by
  have hw : Region.wanted o (yielded ops a.tmps) = true := by simp [Region.wanted, hgd]
  rw [if_pos hw]
  unfold Oper.wp
  simp [execOp, hop, resolve, invoke, builtin, hs, hx, hrun, Result.andThen]
  exact hK
theorem OutIn.drew {W : World} {O : Nat} {ko vo : Value} {Ks : List Key} {Vs : List Int} (h : OutIn W O ko vo Ks Vs) : OutIn W.drew O ko vo Ks Vs := ⟨h.box, h.keys.drew, h.vals.drew⟩
theorem OutIn.form {W : World} {O : Nat} {ko vo : Value} {Ks : List Key} {Vs : List Int} (h : OutIn W O ko vo Ks Vs) : (∃ a n c, ko = .slice a n c) ∧ (∃ a n c, vo = .slice a n c) := by
  constructor
  · rcases h.keys.2 with ⟨rfl, _⟩ | ⟨g, cap, cur, rfl, _⟩
    · exact ⟨_, _, _, rfl⟩
    · exact ⟨_, _, _, rfl⟩
  · rcases h.vals.2 with ⟨rfl, _⟩ | ⟨g, cap, cur, rfl, _⟩
    · exact ⟨_, _, _, rfl⟩
    · exact ⟨_, _, _, rfl⟩

theorem own_below {W W' : World} {B : Nat} {e : TypeId} {v : Value} {n : Nat} {xs : List Value} (h : W.ownsRow B e 1 v n xs) (hb : Below W.heap.size W W') : W'.ownsRow B e 1 v n xs := by
  obtain ⟨h0, h1 | ⟨g, cap, cur, hv, h1, h2, h3⟩⟩ := h
  · exact ⟨h0, .inl h1⟩
  · exact ⟨h0, .inr ⟨g, cap, cur, hv, h1, (hb.block g (Array.getElem?_eq_some_iff.1 h2).1).trans h2, h3⟩⟩
theorem OutIn.below {W W' : World} {O : Nat} {ko vo : Value} {Ks : List Key} {Vs : List Int} (h : OutIn W O ko vo Ks Vs) (hb : Below W.heap.size W W') : OutIn W' O ko vo Ks Vs :=
  ⟨(hb.block O h.lt).trans h.box, own_below h.keys hb, own_below h.vals hb⟩
def restE (k : Key) (x : Int) (dn : Bool) (R : List Ent) : List Ent := if dn then dropE k R else putE k x R
theorem OutIn.away {W : World} {O : Nat} {ko vo : Value} {Ks : List Key} {Vs : List Int} (h : OutIn W O ko vo Ks Vs) (R i : Nat) (u : Value) (hR : R < O) : OutIn (W.setCell ⟨R, i, none⟩ u) O ko vo Ks Vs := by
  have hn : ∀ {e : TypeId} {v : Value} {n : Nat} {xs : List Value}, W.ownsRow O e 1 v n xs → v.ownBlock = none ∨ v.ownBlock ≠ some R := fun {e v n xs} hr => by
    rcases hr.2 with ⟨rfl, _⟩ | ⟨g, cap, cur, rfl, hg, _⟩
    · exact .inl rfl
    · exact .inr fun e => by simp [Value.ownBlock] at e; omega
  exact ⟨((grown_set W R i u).block O h.lt (fun e => by cases e; omega)).trans h.box, h.keys.kept (grown_set W R i u) (hn h.keys), h.vals.kept (grown_set W R i u) (hn h.vals)⟩
theorem OutIn.ref {W : World} {O : Nat} {ko vo : Value} {M : List Ent} (h : OutIn W O ko vo (M.map Prod.fst) (M.map Prod.snd)) : RefIn W (.agg #[ko, vo]) M := by
  have h1 := SliceK.of_own h.keys
  have h2 := SliceK.of_own h.vals
  have f1 : ∃ a c, ko = .slice a M.length c := by
    rcases h.keys.2 with ⟨rfl, h0⟩ | ⟨g, cap, cur, rfl, _⟩
    · exact ⟨none, 0, by simp at h0; simp [h0]⟩
    · exact ⟨_, cap, by rw [List.length_map]⟩
  have f2 : ∃ a c, vo = .slice a M.length c := by
    rcases h.vals.2 with ⟨rfl, h0⟩ | ⟨g, cap, cur, rfl, _⟩
    · exact ⟨none, 0, by simp at h0; simp [h0]⟩
    · exact ⟨_, cap, by rw [List.length_map]⟩
  obtain ⟨a1, c1, rfl⟩ := f1
  obtain ⟨a2, c2, rfl⟩ := f2
  refine ⟨a1, c1, a2, c2, rfl, ?_, ?_⟩
  · simpa [Function.comp_def] using h1
  · simpa [Function.comp_def] using h2

/-- A map whose lists lie in blocks made since. -/
def RefFr (n : Nat) (W : World) (r : Value) (E : List Ent) : Prop := RefIn W r E ∧ ∃ ko vo, r = .agg #[ko, vo] ∧ FreshV n ko ∧ FreshV n vo
theorem OutIn.refFr {W : World} {O n : Nat} {ko vo : Value} {M : List Ent} (h : OutIn W O ko vo (M.map Prod.fst) (M.map Prod.snd)) (hn : n ≤ O) : RefFr n W (.agg #[ko, vo]) M :=
  ⟨h.ref, ko, vo, rfl, (own_fresh h.keys).mono hn, (own_fresh h.vals).mono hn⟩

end Go.Proofs.YtmfejpbijllojaaGreat
