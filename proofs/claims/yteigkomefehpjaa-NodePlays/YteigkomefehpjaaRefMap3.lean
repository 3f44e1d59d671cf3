/- The document's own answers of layer 3 on maps: Put and Drop. Made by tools/gen_refmap.py. -/
import Derived.Test.YteigkomefehpjaaLess3
import Derived.RegionIn
import Derived.Laws.AppendOwnNone
import Derived.Deep.RegionWith
import Derived.Deep.CutBlock
namespace Go.Proofs.Yteigkomefehpjaa
open Go.RowKit Go.Shelf

theorem infoStr3 : (Try.prog.info? 9).map (fun i => (i.zero, i.size, i.bytes)) = some (some (.string ⟨#[]⟩), 1, 16) := by kernel_rfl
theorem grown_set (W : World) (O i : Nat) (u : Value) : W.grownBy (W.setCell ⟨O, i, none⟩ u) (some O) :=
  ⟨rfl, rfl, rfl, by simp [World.setCell], fun k _ hne => Below.heap_setCell _ _ _ _ (fun e => hne (by rw [show k = O from e]))⟩
/-- A block of another type is no row of this one. -/
theorem block_not_row {W : World} {O : Nat} {cs : Array Value} {t e : TypeId} {z : Nat × Nat} (h : W.heap[O]? = some (.cells cs t z)) (hte : t ≠ e) {base size k : Nat} {v : Value} {xs : List Value} (hr : W.ownsRow base e size v k xs) : some O ≠ v.ownBlock := by
  rcases hr.2 with ⟨rfl, _⟩ | ⟨g, cap, cur, rfl, _, hgb, _⟩
  · simp [Value.ownBlock]
  · intro e'
    simp [Value.ownBlock] at e'
    subst e'
    rw [h] at hgb
    cases hgb
    exact hte rfl
theorem rows_apart {W : World} {e e' : TypeId} (hte : e' ≠ e) {base size k base' size' k' : Nat} {v v' : Value} {xs xs' : List Value} (hr : W.ownsRow base e size v k xs) (hr' : W.ownsRow base' e' size' v' k' xs') : v'.ownBlock = none ∨ v'.ownBlock ≠ v.ownBlock := by
  rcases hr'.2 with ⟨rfl, _⟩ | ⟨g, cap, cur, rfl, _, hgb, _⟩
  · exact .inl rfl
  · exact .inr fun e => block_not_row hgb hte hr (by simpa [Value.ownBlock] using e)
/-- The map that is being made: its box, its keys, its values. -/
structure OutIn (W : World) (O : Nat) (ko vo : Value) (Ks : List Key) (Vs : List Int) : Prop where
  box : W.heap[O]? = some (.cells #[ko, vo] 61 (0, 0))
  keys : W.ownsRow O 9 1 ko Ks.length (Ks.map keyV)
  vals : W.ownsRow O 3 1 vo Vs.length (Vs.map numV)
theorem OutIn.cell0 {W : World} {O : Nat} {ko vo : Value} {Ks : List Key} {Vs : List Int} (h : OutIn W O ko vo Ks Vs) : W.cell? ⟨O, 0, none⟩ = some ko := by simp [World.cell?, h.box]
theorem OutIn.cell1 {W : World} {O : Nat} {ko vo : Value} {Ks : List Key} {Vs : List Int} (h : OutIn W O ko vo Ks Vs) : W.cell? ⟨O, 1, none⟩ = some vo := by simp [World.cell?, h.box]
theorem OutIn.lt {W : World} {O : Nat} {ko vo : Value} {Ks : List Key} {Vs : List Int} (h : OutIn W O ko vo Ks Vs) : O < W.heap.size := (Array.getElem?_eq_some_iff.1 h.box).1
theorem heap_set2 {W : World} {O : Nat} {x y : Value} {t : TypeId} (h : W.heap[O]? = some (.cells #[x, y] t (0, 0))) (u : Value) :
    (W.setCell ⟨O, 0, none⟩ u).heap[O]? = some (.cells #[u, y] t (0, 0)) ∧ (W.setCell ⟨O, 1, none⟩ u).heap[O]? = some (.cells #[x, u] t (0, 0)) := by
  obtain ⟨hlt, hk⟩ := Array.getElem?_eq_some_iff.1 h
  constructor
  · show (W.heap.modify O _)[O]? = _
    rw [Array.getElem?_eq_getElem (by rw [Array.size_modify]; exact hlt), Array.getElem_modify_self, hk]
    rfl
  · show (W.heap.modify O _)[O]? = _
    rw [Array.getElem?_eq_getElem (by rw [Array.size_modify]; exact hlt), Array.getElem_modify_self, hk]
    rfl

theorem key_step {W : World} {O : Nat} {ko vo : Value} {Ks : List Key} {Vs : List Int} (h : OutIn W O ko vo Ks Vs) (x : Key) (hbig : Ks.length ≤ 100000) :
    ∃ a3 n3 c3 w1, (Builtin.append_ #[59, 59] 59 #[ko, .slice (some ⟨W.heap.size, 0, none⟩) 1 1]).run Try.prog (W.alloc (.cells #[keyV x] 9)) = .ok (.slice a3 n3 c3) w1 ∧ w1.cell? ⟨O, 0, none⟩ = some ko ∧ w1.frozen? ⟨O, 0, none⟩ = false ∧
      OutIn (w1.setCell ⟨O, 0, none⟩ (.slice a3 n3 c3)) O (.slice a3 n3 c3) vo (Ks ++ [x]) Vs ∧ Below O W (w1.setCell ⟨O, 0, none⟩ (.slice a3 n3 c3)) ∧ Below O W w1 := by
  obtain ⟨i0, hi, hz0, hz1, hz2⟩ := info_parts infoStr3
  have hlt := h.lt
  obtain ⟨v', w1, hrun, hown', hgrow, _⟩ := run_append_own (P := Try.prog) (W.alloc (.cells #[keyV x] 9)) O 59 59 9 i0 (.string ⟨#[]⟩) 1 16 Try.underlying59 hi hz0 hz1 hz2 rfl (by decide) ko _ _ (h.keys.alloc _) ⟨W.heap.size, 0, none⟩ 1 1 [keyV x] rfl (cell_one_new _ _ _) (by simp [Value.oneCell']) (by simp only [maxLen]; omega) (by omega) (by simp; omega)
  have hf : ∃ a3 n3 c3, v' = .slice a3 n3 c3 := by
    rcases hown'.2 with ⟨rfl, _⟩ | ⟨g, cap, cur, rfl, _⟩
    · exact ⟨_, _, _, rfl⟩
    · exact ⟨_, _, _, rfl⟩
  obtain ⟨a3, n3, c3, rfl⟩ := hf
  have hown' : w1.ownsRow O 9 1 (.slice a3 n3 c3) (Ks ++ [x]).length ((Ks ++ [x]).map keyV) := by
    rw [List.length_append, List.map_append]; exact hown'
  have hba : (W.alloc (.cells #[keyV x] 9)).heap[O]? = some (.cells #[ko, vo] 61 (0, 0)) := (Below.heap_alloc _ _ _ hlt).trans h.box
  have hb1 : w1.heap[O]? = some (.cells #[ko, vo] 61 (0, 0)) := (hgrow.block O (by simp; omega) (block_not_row hba (by decide) (h.keys.alloc _))).trans hba
  have hoth1 := (h.vals.alloc (.cells #[keyV x] 9)).kept hgrow (rows_apart (by decide) h.keys h.vals)
  have hbw : Below O W w1 := ((Below.refl O W).alloc (by omega) _).grown hgrow (by simp; omega) (fun j e => own_base3 (h.keys.alloc (.cells #[keyV x] 9)) j e)
  exact ⟨a3, n3, c3, w1, hrun, by simp [World.cell?, hb1], by simp [World.frozen?, hb1], ⟨(heap_set2 hb1 _).1, (hown'.kept (grown_set w1 O 0 _) (.inr (block_not_row hb1 (by decide) hown').symm)), (hoth1.kept (grown_set w1 O 0 _) (.inr (block_not_row hb1 (by decide) hoth1).symm))⟩, hbw.setCell (p := ⟨O, 0, none⟩) (Nat.le_refl _) _, hbw⟩

theorem val_step {W : World} {O : Nat} {ko vo : Value} {Ks : List Key} {Vs : List Int} (h : OutIn W O ko vo Ks Vs) (x : Int) (hbig : Vs.length ≤ 100000) :
    ∃ a3 n3 c3 w1, (Builtin.append_ #[43, 43] 43 #[vo, .slice (some ⟨W.heap.size, 0, none⟩) 1 1]).run Try.prog (W.alloc (.cells #[numV x] 3)) = .ok (.slice a3 n3 c3) w1 ∧ w1.cell? ⟨O, 1, none⟩ = some vo ∧ w1.frozen? ⟨O, 1, none⟩ = false ∧
      OutIn (w1.setCell ⟨O, 1, none⟩ (.slice a3 n3 c3)) O ko (.slice a3 n3 c3) Ks (Vs ++ [x]) ∧ Below O W (w1.setCell ⟨O, 1, none⟩ (.slice a3 n3 c3)) ∧ Below O W w1 := by
  obtain ⟨i0, hi, hz0, hz1, hz2⟩ := info_parts infoInt
  have hlt := h.lt
  obtain ⟨v', w1, hrun, hown', hgrow, _⟩ := run_append_own (P := Try.prog) (W.alloc (.cells #[numV x] 3)) O 43 43 3 i0 (.int .i64 0) 1 8 Try.underlying43 hi hz0 hz1 hz2 rfl (by decide) vo _ _ (h.vals.alloc _) ⟨W.heap.size, 0, none⟩ 1 1 [numV x] rfl (cell_one_new _ _ _) (by simp [Value.oneCell']) (by simp only [maxLen]; omega) (by omega) (by simp; omega)
  have hf : ∃ a3 n3 c3, v' = .slice a3 n3 c3 := by
    rcases hown'.2 with ⟨rfl, _⟩ | ⟨g, cap, cur, rfl, _⟩
    · exact ⟨_, _, _, rfl⟩
    · exact ⟨_, _, _, rfl⟩
  obtain ⟨a3, n3, c3, rfl⟩ := hf
  have hown' : w1.ownsRow O 3 1 (.slice a3 n3 c3) (Vs ++ [x]).length ((Vs ++ [x]).map numV) := by
    rw [List.length_append, List.map_append]; exact hown'
  have hba : (W.alloc (.cells #[numV x] 3)).heap[O]? = some (.cells #[ko, vo] 61 (0, 0)) := (Below.heap_alloc _ _ _ hlt).trans h.box
  have hb1 : w1.heap[O]? = some (.cells #[ko, vo] 61 (0, 0)) := (hgrow.block O (by simp; omega) (block_not_row hba (by decide) (h.vals.alloc _))).trans hba
  have hoth1 := (h.keys.alloc (.cells #[numV x] 3)).kept hgrow (rows_apart (by decide) h.vals h.keys)
  have hbw : Below O W w1 := ((Below.refl O W).alloc (by omega) _).grown hgrow (by simp; omega) (fun j e => own_base3 (h.vals.alloc (.cells #[numV x] 3)) j e)
  exact ⟨a3, n3, c3, w1, hrun, by simp [World.cell?, hb1], by simp [World.frozen?, hb1], ⟨(heap_set2 hb1 _).2, (hoth1.kept (grown_set w1 O 1 _) (.inr (block_not_row hb1 (by decide) hoth1).symm)), (hown'.kept (grown_set w1 O 1 _) (.inr (block_not_row hb1 (by decide) hown').symm))⟩, hbw.setCell (p := ⟨O, 1, none⟩) (Nat.le_refl _) _, hbw⟩

theorem wpList_append_run {P : Program} {w : World} {ops : Array Oper} {rest : List Oper} {o : Oper} {a : Act} {Q : Exit → Act → World → Prop} (hgd : o.guard = none) (s x : Operand) (t : TypeId)
    (hop : o.op = Op.call { callee := Callee.builtin Builtin.append, args := #[s, x], argTypes := #[t, t] }) (v u v' : Value) (w' : World) (hs : a.eval s = v) (hx : a.eval x = u) (hrun : (Builtin.append_ #[t, t] o.type #[v, u]).run P w = .ok v' w')
    (h : wpList P ops Q rest (a.put o.dst v') w') : wpList P ops Q (o :: rest) a w := by
  refine wpList_plain hgd fun K hK' => ?_
  unfold Oper.wp
  simp [execOp, hop, resolve, invoke, builtin, hs, hx, hrun, Result.andThen]
  exact hK' _ _ h
theorem step_append_run {P : Program} {ops : Array Oper} {o : Oper} {a : Act} {w : World} {K : Act → World → Prop} {Q : Exit → Act → World → Prop} {E : Prop} (hgd : o.guard = none) (s x : Operand) (t : TypeId)
    (hop : o.op = Op.call { callee := Callee.builtin Builtin.append, args := #[s, x], argTypes := #[t, t] }) (v u v' : Value) (w' : World) (hs : a.eval s = v) (hx : a.eval x = u) (hrun : (Builtin.append_ #[t, t] o.type #[v, u]).run P w = .ok v' w') (hK : K (a.put o.dst v') w') :
    if Region.wanted o (yielded ops a.tmps) = true then Oper.wp P o a w K Q else E := by
  have hw : Region.wanted o (yielded ops a.tmps) = true := by simp [Region.wanted, hgd]
  rw [if_pos hw]
  unfold Oper.wp
  simp [execOp, hop, resolve, invoke, builtin, hs, hx, hrun, Result.andThen]
  exact hK
theorem OutIn.drew {W : World} {O : Nat} {ko vo : Value} {Ks : List Key} {Vs : List Int} (h : OutIn W O ko vo Ks Vs) : OutIn W.drew O ko vo Ks Vs := ⟨h.box, h.keys.drew, h.vals.drew⟩
theorem OutIn.form {W : World} {O : Nat} {ko vo : Value} {Ks : List Key} {Vs : List Int} (h : OutIn W O ko vo Ks Vs) : (∃ a n c, ko = .slice a n c) ∧ (∃ a n c, vo = .slice a n c) := by
  constructor
  · rcases h.keys.2 with ⟨rfl, _⟩ | ⟨g, cap, cur, rfl, _⟩
    · exact ⟨_, _, _, rfl⟩
    · exact ⟨_, _, _, rfl⟩
  · rcases h.vals.2 with ⟨rfl, _⟩ | ⟨g, cap, cur, rfl, _⟩
    · exact ⟨_, _, _, rfl⟩
    · exact ⟨_, _, _, rfl⟩

theorem own_below {W W' : World} {B : Nat} {e : TypeId} {v : Value} {n : Nat} {xs : List Value} (h : W.ownsRow B e 1 v n xs) (hb : Below W.heap.size W W') : W'.ownsRow B e 1 v n xs := by
  obtain ⟨h0, h1 | ⟨g, cap, cur, hv, h1, h2, h3⟩⟩ := h
  · exact ⟨h0, .inl h1⟩
  · exact ⟨h0, .inr ⟨g, cap, cur, hv, h1, (hb.block g (Array.getElem?_eq_some_iff.1 h2).1).trans h2, h3⟩⟩
theorem OutIn.below {W W' : World} {O : Nat} {ko vo : Value} {Ks : List Key} {Vs : List Int} (h : OutIn W O ko vo Ks Vs) (hb : Below W.heap.size W W') : OutIn W' O ko vo Ks Vs :=
  ⟨(hb.block O h.lt).trans h.box, own_below h.keys hb, own_below h.vals hb⟩
def restE (k : Key) (x : Int) (dn : Bool) (R : List Ent) : List Ent := if dn then dropE k R else putE k x R
theorem OutIn.away {W : World} {O : Nat} {ko vo : Value} {Ks : List Key} {Vs : List Int} (h : OutIn W O ko vo Ks Vs) (R i : Nat) (u : Value) (hR : R < O) : OutIn (W.setCell ⟨R, i, none⟩ u) O ko vo Ks Vs := by
  have hn : ∀ {e : TypeId} {v : Value} {n : Nat} {xs : List Value}, W.ownsRow O e 1 v n xs → v.ownBlock = none ∨ v.ownBlock ≠ some R := fun {e v n xs} hr => by
    rcases hr.2 with ⟨rfl, _⟩ | ⟨g, cap, cur, rfl, hg, _⟩
    · exact .inl rfl
    · exact .inr fun e => by simp [Value.ownBlock] at e; omega
  exact ⟨((grown_set W R i u).block O h.lt (fun e => by cases e; omega)).trans h.box, h.keys.kept (grown_set W R i u) (hn h.keys), h.vals.kept (grown_set W R i u) (hn h.vals)⟩
theorem OutIn.ref {W : World} {O : Nat} {ko vo : Value} {M : List Ent} (h : OutIn W O ko vo (M.map Prod.fst) (M.map Prod.snd)) : RefIn W (.agg #[ko, vo]) M := by
  have h1 := SliceK.of_own h.keys
  have h2 := SliceK.of_own h.vals
  have f1 : ∃ a c, ko = .slice a M.length c := by
    rcases h.keys.2 with ⟨rfl, h0⟩ | ⟨g, cap, cur, rfl, _⟩
    · exact ⟨none, 0, by simp at h0; simp [h0]⟩
    · exact ⟨_, cap, by rw [List.length_map]⟩
  have f2 : ∃ a c, vo = .slice a M.length c := by
    rcases h.vals.2 with ⟨rfl, h0⟩ | ⟨g, cap, cur, rfl, _⟩
    · exact ⟨none, 0, by simp at h0; simp [h0]⟩
    · exact ⟨_, cap, by rw [List.length_map]⟩
  obtain ⟨a1, c1, rfl⟩ := f1
  obtain ⟨a2, c2, rfl⟩ := f2
  refine ⟨a1, c1, a2, c2, rfl, ?_, ?_⟩
  · simpa [Function.comp_def] using h1
  · simpa [Function.comp_def] using h2

/-- A map whose lists lie in blocks made since. -/
def RefFr (n : Nat) (W : World) (r : Value) (E : List Ent) : Prop := RefIn W r E ∧ ∃ ko vo, r = .agg #[ko, vo] ∧ FreshV n ko ∧ FreshV n vo
theorem OutIn.refFr {W : World} {O n : Nat} {ko vo : Value} {M : List Ent} (h : OutIn W O ko vo (M.map Prod.fst) (M.map Prod.snd)) (hn : n ≤ O) : RefFr n W (.agg #[ko, vo]) M :=
  ⟨h.ref, ko, vo, rfl, (own_fresh h.keys).mono hn, (own_fresh h.vals).mono hn⟩

set_option maxHeartbeats 4000000 in
set_option maxRecDepth 100000 in
theorem ref_Drop0 (v : Value) (E : List Ent) (k : Key) (w : World) (h : RefIn w v E) (hbig : E.length ≤ 10000) :
    Calls Try.prog 32 #[v, keyV k] w fun e w' => ∃ r, e = .returned r ∧ RefFr w.heap.size w' r (dropE k E) ∧ Below w.heap.size w w' := by
  obtain ⟨ka, kc, va, vc, rfl, h1, h2⟩ := h
  have hB : Below w.heap.size w (((w.alloc (.cells #[.slice ka E.length kc, .slice va E.length vc] 61)).alloc (.cells #[.slice none 0 0, .slice none 0 0] 61)).alloc (.cells #[.slice none 0 0, .slice none 0 0] 61)) := (((Below.refl _ _).alloc (Nat.le_refl _) _).alloc (by simp) _).alloc (by simp; omega) _
  have K1 := Lib.hid (fun i p (hp : E[i]? = some p) => slice_at (f := fun p : Ent => keyV p.1) h1 i p hp)
  have V1 := Lib.hid (fun i p (hp : E[i]? = some p) => slice_at (f := fun p : Ent => numV p.2) h2 i p hp)
  clear h1 h2
  go_enter Try.func32, Try.ntmps32
  go_wp2
  have hO : (((w.alloc (.cells #[.slice ka E.length kc, .slice va E.length vc] 61)).alloc (.cells #[.slice none 0 0, .slice none 0 0] 61)).alloc (.cells #[.slice none 0 0, .slice none 0 0] 61)).heap[w.heap.size + 2]? = some (.cells #[.slice none 0 0, .slice none 0 0] 61 (0, 0)) := by
    rw [heap_alloc_at, if_pos (by simp)]
  have hR : (((w.alloc (.cells #[.slice ka E.length kc, .slice va E.length vc] 61)).alloc (.cells #[.slice none 0 0, .slice none 0 0] 61)).alloc (.cells #[.slice none 0 0, .slice none 0 0] 61)).heap[w.heap.size + 1]? = some (.cells #[.slice none 0 0, .slice none 0 0] 61 (0, 0)) := by
    rw [heap_alloc_at, if_neg (by simp), heap_alloc_at, if_pos (by simp)]
  have hM : (((w.alloc (.cells #[.slice ka E.length kc, .slice va E.length vc] 61)).alloc (.cells #[.slice none 0 0, .slice none 0 0] 61)).alloc (.cells #[.slice none 0 0, .slice none 0 0] 61)).heap[w.heap.size]? = some (.cells #[.slice ka E.length kc, .slice va E.length vc] 61 (0, 0)) := by
    rw [heap_alloc_at, if_neg (by simp; omega), heap_alloc_at, if_neg (by simp), heap_alloc_at, if_pos rfl]
  have hz : (((w.alloc (.cells #[.slice ka E.length kc, .slice va E.length vc] 61)).alloc (.cells #[.slice none 0 0, .slice none 0 0] 61)).alloc (.cells #[.slice none 0 0, .slice none 0 0] 61)).heap.size = w.heap.size + 3 := by simp
  generalize (((w.alloc (.cells #[.slice ka E.length kc, .slice va E.length vc] 61)).alloc (.cells #[.slice none 0 0, .slice none 0 0] 61)).alloc (.cells #[.slice none 0 0, .slice none 0 0] 61)) = W3 at hB hO hR hM hz ⊢
  obtain ⟨O, hOw⟩ : ∃ O, O = w.heap.size + 2 := ⟨_, rfl⟩
  have hOw1 : w.heap.size + 1 + 1 = O := by omega
  rw [hOw1]
  rw [← hOw] at hO
  have hO1 : w.heap.size < O := by omega
  have hO2 : w.heap.size + 1 < O := by omega
  have HOW := Lib.hid hOw
  clear hOw hOw1
  have m0 : W3.cell? ⟨w.heap.size, 0, none⟩ = some (.slice ka E.length kc) := by simp [World.cell?, hM]
  have m1 : W3.cell? ⟨w.heap.size, 1, none⟩ = some (.slice va E.length vc) := by simp [World.cell?, hM]
  have BB := Lib.hid hB
  have HR3 := Lib.hid hR
  clear hB hM hR
  go_loopw [6] (fun i wr => ∃ (j : Nat) (M : List Ent) (ko vo : Value), j ≤ E.length ∧ M.length ≤ j ∧ i = .int .i64 j ∧ Hid (dropE k E = M ++ dropE k (E.drop j)) ∧ OutIn wr O ko vo (M.map Prod.fst) (M.map Prod.snd) ∧ Below O W3 wr) (fun i _ => E.length - (intOf i).toNat)
  case atStart => exact ⟨0, [], _, _, Nat.zero_le _, Nat.le_refl _, rfl, rfl, ⟨hO, World.ownsRow_nil _ _ _ _, World.ownsRow_nil _ _ _ _⟩, Below.refl _ _⟩
  case round =>
    obtain ⟨j, M, ko, vo, hj, hMl, rfl, H, ho, hB⟩ := hrel
    have hbs := hB.size
    have cm0 := (hB.cell (p := ⟨w.heap.size, 0, none⟩) hO1).trans m0
    have cm1 := (hB.cell (p := ⟨w.heap.size, 1, none⟩) hO1).trans m1
    obtain ⟨⟨ja, jn, jc, rfl⟩, ⟨ia, inn, ic, rfl⟩⟩ := ho.form
    by_cases hlt : j < E.length
    · obtain ⟨p, hp⟩ : ∃ p, E[j]? = some p := ⟨_, List.getElem?_eq_getElem hlt⟩
      obtain ⟨b, off, rfl, hb, f0⟩ := K1.out j p hp
      obtain ⟨b', off', rfl, hb', f1⟩ := V1.out j p hp
      have e0 := (BB.out.cell (p := ⟨b, off + j, none⟩) hb).trans f0
      have e1 := (BB.out.cell (p := ⟨b', off' + j, none⟩) hb').trans f1
      have hd : E.drop j = p :: E.drop (j + 1) := by
        obtain ⟨hjl, rfl⟩ := List.getElem?_eq_some_iff.1 hp
        exact List.drop_eq_getElem_cons hjl
      have D := Lib.hid hd
      clear hp hd f0 f1
      obtain ⟨pk, pv⟩ := p
      dsimp only at e0 e1
      have ce0 := (hB.cell (p := ⟨b, off + j, none⟩) (by show b < O; omega)).trans e0
      by_cases hk : pk = k
      · subst hk
        go_wp2
        go_roundw
        case rel =>
          refine ⟨j + 1, M, _, _, by omega, by omega, by go_num, ?_, ho, hB⟩
          show _ = _
          rw [H.out, D.out]; simp [dropE]
        case measure => simp [intOf]; omega
      · have hk1 : (pk == k) = false := by simpa using hk
        have HK := Lib.hid hk
        have HJ := Lib.hid hMl
        go_wp2_with fail
        have hoc := ho
        have bc := hB
        clear ho hB cm0 cm1 ce0 hk
        generalize wr = Wc at hoc bc hbs ⊢
        have hlc := hoc.lt
        have co := hoc.cell0
        obtain ⟨a3, n3, c3, w4, hr0, cw, fw, out4, bst, hst⟩ := key_step hoc.drew pk (by simp; omega)
        have hrun : (Builtin.append_ #[59, 59] 59 #[(.slice ja jn jc), .slice (some ⟨Wc.heap.size, 0, none⟩) 1 1]).run Try.prog (Wc.alloc (.cells #[keyV pk] 9)).drew = .ok (.slice a3 n3 c3) w4 := hr0
        clear hr0
        have B4 := Lib.hid (bc.drew.trans bst)
        have O4 := Lib.hid out4
        have dA : ∀ o, Below O W3 (Wc.alloc o).drew := fun o => (bc.alloc (by omega) o).drew
        have coA : ∀ o, (Wc.alloc o).cell? ⟨O, 0, none⟩ = some ((.slice ja jn jc)) := fun o => by rw [World.cell?_alloc_lt _ _ _ (by show O < Wc.heap.size; omega)]; exact co
        have kA := bc.drew
        have kB := bc.drew.trans hst
        clear out4
        refine wp_region_noPanic ?_
        refine wp_region_held_drew (S := (fun w' => w'.cell? ⟨w.heap.size, 0, none⟩ = some (.slice (some ⟨b, off, none⟩) E.length kc) ∧ w'.cell? ⟨b, off + j, none⟩ = some (keyV pk))) (by kernel_rfl) ?_ (fun hHeld => ?_)
        · exact ⟨(kA.cell (p := ⟨w.heap.size, 0, none⟩) hO1).trans m0, (kA.cell (p := ⟨b, off + j, none⟩) (by show b < O; omega)).trans e0⟩
        refine wpAnyH_take (i := 0) (oi := ⟨some 22, _, _, _, _, _⟩) (v := ?_) rfl (by kernel_rfl) (by kernel_rfl) (by kernel_rfl) (fun _ _ _ h => h) (Or.inl ⟨by rfl, ?_⟩) (by assumption) ?_
        rotate_left
        · (intro w hSw; (try dsimp only at hSw); go_simp; try with_reducible rfl)
        try simp only [Act.put, List.setIfInBounds_toArray, List.set_cons_zero, List.set_cons_succ]
        refine wpAnyH_take (i := 2) (oi := ⟨some 24, _, _, _, _, _⟩) (v := ?_) rfl (by kernel_rfl) (by kernel_rfl) (by kernel_rfl) (fun _ _ _ h => h) (Or.inl ⟨by rfl, ?_⟩) (by assumption) ?_
        rotate_left
        · (intro w hSw; (try dsimp only at hSw); go_simp; try with_reducible rfl)
        try simp only [Act.put, List.setIfInBounds_toArray, List.set_cons_zero, List.set_cons_succ]
        refine wpAnyH_take (i := 3) (oi := ⟨some 25, _, _, _, _, _⟩) (v := ?_) rfl (by kernel_rfl) (by kernel_rfl) (by kernel_rfl) (fun _ _ _ h => h) (Or.inl ⟨by rfl, ?_⟩) (by assumption) ?_
        rotate_left
        · (intro w hSw; (try dsimp only at hSw); go_simp; try with_reducible rfl)
        try simp only [Act.put, List.setIfInBounds_toArray, List.set_cons_zero, List.set_cons_succ]
        refine wpAnyH_take (i := 4) (oi := ⟨some 26, _, _, _, _, _⟩) (v := ?_) rfl (by kernel_rfl) (by kernel_rfl) (by kernel_rfl) (fun _ _ _ h => h) (Or.inl ⟨by rfl, ?_⟩) (by assumption) ?_
        rotate_left
        · (intro w hSw; (try dsimp only at hSw); go_simp; try with_reducible rfl)
        try simp only [Act.put, List.setIfInBounds_toArray, List.set_cons_zero, List.set_cons_succ]
        refine wpAnyH_take (i := 5) (oi := ⟨some 27, _, _, _, _, _⟩) (v := ?_) rfl (by kernel_rfl) (by kernel_rfl) (by kernel_rfl) (fun _ _ _ h => h) (Or.inl ⟨by rfl, ?_⟩) (by assumption) ?_
        rotate_left
        · (intro w hSw; (try dsimp only at hSw); go_simp; try with_reducible rfl)
        try simp only [Act.put, List.setIfInBounds_toArray, List.set_cons_zero, List.set_cons_succ]
        refine wpAnyH_take (i := 6) (oi := ⟨some 28, _, _, _, _, _⟩) (v := ?_) rfl (by kernel_rfl) (by kernel_rfl) (by kernel_rfl) (fun _ _ _ h => h) (Or.inl ⟨by rfl, ?_⟩) (by assumption) ?_
        rotate_left
        · (intro w hSw; (try dsimp only at hSw); go_simp; try with_reducible rfl)
        try simp only [Act.put, List.setIfInBounds_toArray, List.set_cons_zero, List.set_cons_succ]
        refine wpAnyH_ready (rs := [1, 7]) (by kernel_rfl) (by simp) ?_
        refine AllReadyH.cons (o := ⟨some 23, _, _, _, _, _⟩) rfl (fun K hK => ?_) (AllReadyH.cons (o := ⟨some 29, _, _, _, _, _⟩) rfl (fun K hK => ?_) AllReadyH.nil)
        go_simp
        refine hK.out _ _ ?_ (fun hHeldX => ?_)
        · exact ⟨(kA.cell (p := ⟨w.heap.size, 0, none⟩) hO1).trans m0, (kA.cell (p := ⟨b, off + j, none⟩) (by show b < O; omega)).trans e0⟩
        clear hK K hHeld
        rename _ => hHeld
        try simp only [Act.put, List.setIfInBounds_toArray, List.set_cons_zero, List.set_cons_succ]
        refine wpAnyH_ready (rs := [7]) (by kernel_rfl) (by simp) ?_
        refine AllReadyH.cons (o := ⟨some 29, _, _, _, _, _⟩) rfl (fun K hK => ?_) AllReadyH.nil
        go_simp
        refine hK.out _ _ ?_ (fun hHeldX => ?_)
        · exact ⟨((dA _).cell (p := ⟨w.heap.size, 0, none⟩) hO1).trans m0, ((dA _).cell (p := ⟨b, off + j, none⟩) (by show b < O; omega)).trans e0⟩
        clear hK K hHeld
        rename _ => hHeld
        try simp only [Act.put, List.setIfInBounds_toArray, List.set_cons_zero, List.set_cons_succ]
        refine wpAnyH_ready (rs := [8]) (by kernel_rfl) (by simp) ?_
        refine AllReadyH.cons (o := ⟨some 30, _, _, _, _, _⟩) rfl (fun K hK => ?_) AllReadyH.nil
        refine step_append_run rfl (.tmp 23) (.tmp 29) 59 rfl _ _ _ _ rfl rfl hrun ?_
        refine hK.out _ _ ?_ (fun hHeldX => ?_)
        · exact ⟨(kB.cell (p := ⟨w.heap.size, 0, none⟩) hO1).trans m0, (kB.cell (p := ⟨b, off + j, none⟩) (by show b < O; omega)).trans e0⟩
        clear hK K hHeld
        rename _ => hHeld
        try simp only [Act.put, List.setIfInBounds_toArray, List.set_cons_zero, List.set_cons_succ]
        refine wpAnyH_take (i := 9) (oi := ⟨some 31, _, _, _, _, _⟩) (v := ?_) rfl (by kernel_rfl) (by kernel_rfl) (by kernel_rfl) (fun _ _ _ h => h) (Or.inl ⟨by rfl, ?_⟩) (by assumption) ?_
        rotate_left
        · (intro w hSw; (try dsimp only at hSw); go_simp; try with_reducible rfl)
        try simp only [Act.put, List.setIfInBounds_toArray, List.set_cons_zero, List.set_cons_succ]
        refine wpAnyH_ready (rs := [10]) (by kernel_rfl) (by simp) ?_
        refine AllReadyH.cons (o := ⟨none, _, _, _, _, _⟩) rfl (fun K hK => ?_) AllReadyH.nil
        go_simp
        refine hK.out _ _ ?_ (fun hHeldX => ?_)
        · exact ⟨(B4.out.cell (p := ⟨w.heap.size, 0, none⟩) hO1).trans m0, (B4.out.cell (p := ⟨b, off + j, none⟩) (by show b < O; omega)).trans e0⟩
        clear hK K hHeld
        rename _ => hHeld
        try simp only [Act.put, List.setIfInBounds_toArray, List.set_cons_zero, List.set_cons_succ]
        refine wpAnyH_done (by kernel_rfl) ?_ _
        refine NoPanic.normal ?_
        rotate_left
        go_simp
        refine hK.out _ _ ?_ (fun hHeldX => ?_)
        · exact ⟨((dA _).cell (p := ⟨w.heap.size, 0, none⟩) hO1).trans m0, ((dA _).cell (p := ⟨b, off + j, none⟩) (by show b < O; omega)).trans e0⟩
        clear hK K hHeld
        rename _ => hHeld
        try simp only [Act.put, List.setIfInBounds_toArray, List.set_cons_zero, List.set_cons_succ]
        refine wpAnyH_ready (rs := [1]) (by kernel_rfl) (by simp) ?_
        refine AllReadyH.cons (o := ⟨some 23, _, _, _, _, _⟩) rfl (fun K hK => ?_) AllReadyH.nil
        go_simp
        refine hK.out _ _ ?_ (fun hHeldX => ?_)
        · exact ⟨((dA _).cell (p := ⟨w.heap.size, 0, none⟩) hO1).trans m0, ((dA _).cell (p := ⟨b, off + j, none⟩) (by show b < O; omega)).trans e0⟩
        clear hK K hHeld
        rename _ => hHeld
        try simp only [Act.put, List.setIfInBounds_toArray, List.set_cons_zero, List.set_cons_succ]
        refine wpAnyH_ready (rs := [8]) (by kernel_rfl) (by simp) ?_
        refine AllReadyH.cons (o := ⟨some 30, _, _, _, _, _⟩) rfl (fun K hK => ?_) AllReadyH.nil
        refine step_append_run rfl (.tmp 23) (.tmp 29) 59 rfl _ _ _ _ rfl rfl hrun ?_
        refine hK.out _ _ ?_ (fun hHeldX => ?_)
        · exact ⟨(kB.cell (p := ⟨w.heap.size, 0, none⟩) hO1).trans m0, (kB.cell (p := ⟨b, off + j, none⟩) (by show b < O; omega)).trans e0⟩
        clear hK K hHeld
        rename _ => hHeld
        try simp only [Act.put, List.setIfInBounds_toArray, List.set_cons_zero, List.set_cons_succ]
        refine wpAnyH_take (i := 9) (oi := ⟨some 31, _, _, _, _, _⟩) (v := ?_) rfl (by kernel_rfl) (by kernel_rfl) (by kernel_rfl) (fun _ _ _ h => h) (Or.inl ⟨by rfl, ?_⟩) (by assumption) ?_
        rotate_left
        · (intro w hSw; (try dsimp only at hSw); go_simp; try with_reducible rfl)
        try simp only [Act.put, List.setIfInBounds_toArray, List.set_cons_zero, List.set_cons_succ]
        refine wpAnyH_ready (rs := [10]) (by kernel_rfl) (by simp) ?_
        refine AllReadyH.cons (o := ⟨none, _, _, _, _, _⟩) rfl (fun K hK => ?_) AllReadyH.nil
        go_simp
        refine hK.out _ _ ?_ (fun hHeldX => ?_)
        · exact ⟨(B4.out.cell (p := ⟨w.heap.size, 0, none⟩) hO1).trans m0, (B4.out.cell (p := ⟨b, off + j, none⟩) (by show b < O; omega)).trans e0⟩
        clear hK K hHeld
        rename _ => hHeld
        try simp only [Act.put, List.setIfInBounds_toArray, List.set_cons_zero, List.set_cons_succ]
        refine wpAnyH_done (by kernel_rfl) ?_ _
        refine NoPanic.normal ?_
        rotate_left
        all_goals
          go_wp2_with fail
          have hoc := O4.out
          have bc := B4.out
          clear O4 B4 hrun dA coA kA kB cw fw bst hst co hlc hHeld
          generalize w4.setCell ⟨O, 0, none⟩ (.slice a3 n3 c3) = Wc at hoc bc ⊢
          have hlc := hoc.lt
          have co := hoc.cell1
          obtain ⟨a5, n5, c5, w4, hr0, cw, fw, out4, bst, hst⟩ := val_step hoc.drew pv (by simp; omega)
          have hrun : (Builtin.append_ #[43, 43] 43 #[(.slice ia inn ic), .slice (some ⟨Wc.heap.size, 0, none⟩) 1 1]).run Try.prog (Wc.alloc (.cells #[.int .i64 pv] 3)).drew = .ok (.slice a5 n5 c5) w4 := hr0
          clear hr0
          have B4 := Lib.hid (bc.drew.trans bst)
          have O4 := Lib.hid out4
          have dA : ∀ o, Below O W3 (Wc.alloc o).drew := fun o => (bc.alloc (by omega) o).drew
          have coA : ∀ o, (Wc.alloc o).cell? ⟨O, 1, none⟩ = some ((.slice ia inn ic)) := fun o => by rw [World.cell?_alloc_lt _ _ _ (by show O < Wc.heap.size; omega)]; exact co
          have kA := bc.drew
          have kB := bc.drew.trans hst
          clear out4
          refine wp_region_noPanic ?_
          refine wp_region_held_drew (S := (fun w' => w'.cell? ⟨w.heap.size, 1, none⟩ = some (.slice (some ⟨b', off', none⟩) E.length vc) ∧ w'.cell? ⟨b', off' + j, none⟩ = some (.int .i64 pv))) (by kernel_rfl) ?_ (fun hHeld => ?_)
          · exact ⟨(kA.cell (p := ⟨w.heap.size, 1, none⟩) hO1).trans m1, (kA.cell (p := ⟨b', off' + j, none⟩) (by show b' < O; omega)).trans e1⟩
          refine wpAnyH_take (i := 0) (oi := ⟨some 32, _, _, _, _, _⟩) (v := ?_) rfl (by kernel_rfl) (by kernel_rfl) (by kernel_rfl) (fun _ _ _ h => h) (Or.inl ⟨by rfl, ?_⟩) (by assumption) ?_
          rotate_left
          · (intro w hSw; (try dsimp only at hSw); go_simp; try with_reducible rfl)
          try simp only [Act.put, List.setIfInBounds_toArray, List.set_cons_zero, List.set_cons_succ]
          refine wpAnyH_take (i := 2) (oi := ⟨some 34, _, _, _, _, _⟩) (v := ?_) rfl (by kernel_rfl) (by kernel_rfl) (by kernel_rfl) (fun _ _ _ h => h) (Or.inl ⟨by rfl, ?_⟩) (by assumption) ?_
          rotate_left
          · (intro w hSw; (try dsimp only at hSw); go_simp; try with_reducible rfl)
          try simp only [Act.put, List.setIfInBounds_toArray, List.set_cons_zero, List.set_cons_succ]
          refine wpAnyH_take (i := 3) (oi := ⟨some 35, _, _, _, _, _⟩) (v := ?_) rfl (by kernel_rfl) (by kernel_rfl) (by kernel_rfl) (fun _ _ _ h => h) (Or.inl ⟨by rfl, ?_⟩) (by assumption) ?_
          rotate_left
          · (intro w hSw; (try dsimp only at hSw); go_simp; try with_reducible rfl)
          try simp only [Act.put, List.setIfInBounds_toArray, List.set_cons_zero, List.set_cons_succ]
          refine wpAnyH_take (i := 4) (oi := ⟨some 36, _, _, _, _, _⟩) (v := ?_) rfl (by kernel_rfl) (by kernel_rfl) (by kernel_rfl) (fun _ _ _ h => h) (Or.inl ⟨by rfl, ?_⟩) (by assumption) ?_
          rotate_left
          · (intro w hSw; (try dsimp only at hSw); go_simp; try with_reducible rfl)
          try simp only [Act.put, List.setIfInBounds_toArray, List.set_cons_zero, List.set_cons_succ]
          refine wpAnyH_take (i := 5) (oi := ⟨some 37, _, _, _, _, _⟩) (v := ?_) rfl (by kernel_rfl) (by kernel_rfl) (by kernel_rfl) (fun _ _ _ h => h) (Or.inl ⟨by rfl, ?_⟩) (by assumption) ?_
          rotate_left
          · (intro w hSw; (try dsimp only at hSw); go_simp; try with_reducible rfl)
          try simp only [Act.put, List.setIfInBounds_toArray, List.set_cons_zero, List.set_cons_succ]
          refine wpAnyH_take (i := 6) (oi := ⟨some 38, _, _, _, _, _⟩) (v := ?_) rfl (by kernel_rfl) (by kernel_rfl) (by kernel_rfl) (fun _ _ _ h => h) (Or.inl ⟨by rfl, ?_⟩) (by assumption) ?_
          rotate_left
          · (intro w hSw; (try dsimp only at hSw); go_simp; try with_reducible rfl)
          try simp only [Act.put, List.setIfInBounds_toArray, List.set_cons_zero, List.set_cons_succ]
          refine wpAnyH_ready (rs := [1, 7]) (by kernel_rfl) (by simp) ?_
          refine AllReadyH.cons (o := ⟨some 33, _, _, _, _, _⟩) rfl (fun K hK => ?_) (AllReadyH.cons (o := ⟨some 39, _, _, _, _, _⟩) rfl (fun K hK => ?_) AllReadyH.nil)
          go_simp
          refine hK.out _ _ ?_ (fun hHeldX => ?_)
          · exact ⟨(kA.cell (p := ⟨w.heap.size, 1, none⟩) hO1).trans m1, (kA.cell (p := ⟨b', off' + j, none⟩) (by show b' < O; omega)).trans e1⟩
          clear hK K hHeld
          rename _ => hHeld
          try simp only [Act.put, List.setIfInBounds_toArray, List.set_cons_zero, List.set_cons_succ]
          refine wpAnyH_ready (rs := [7]) (by kernel_rfl) (by simp) ?_
          refine AllReadyH.cons (o := ⟨some 39, _, _, _, _, _⟩) rfl (fun K hK => ?_) AllReadyH.nil
          go_simp
          refine hK.out _ _ ?_ (fun hHeldX => ?_)
          · exact ⟨((dA _).cell (p := ⟨w.heap.size, 1, none⟩) hO1).trans m1, ((dA _).cell (p := ⟨b', off' + j, none⟩) (by show b' < O; omega)).trans e1⟩
          clear hK K hHeld
          rename _ => hHeld
          try simp only [Act.put, List.setIfInBounds_toArray, List.set_cons_zero, List.set_cons_succ]
          refine wpAnyH_ready (rs := [8]) (by kernel_rfl) (by simp) ?_
          refine AllReadyH.cons (o := ⟨some 40, _, _, _, _, _⟩) rfl (fun K hK => ?_) AllReadyH.nil
          refine step_append_run rfl (.tmp 33) (.tmp 39) 43 rfl _ _ _ _ rfl rfl hrun ?_
          refine hK.out _ _ ?_ (fun hHeldX => ?_)
          · exact ⟨(kB.cell (p := ⟨w.heap.size, 1, none⟩) hO1).trans m1, (kB.cell (p := ⟨b', off' + j, none⟩) (by show b' < O; omega)).trans e1⟩
          clear hK K hHeld
          rename _ => hHeld
          try simp only [Act.put, List.setIfInBounds_toArray, List.set_cons_zero, List.set_cons_succ]
          refine wpAnyH_take (i := 9) (oi := ⟨some 41, _, _, _, _, _⟩) (v := ?_) rfl (by kernel_rfl) (by kernel_rfl) (by kernel_rfl) (fun _ _ _ h => h) (Or.inl ⟨by rfl, ?_⟩) (by assumption) ?_
          rotate_left
          · (intro w hSw; (try dsimp only at hSw); go_simp; try with_reducible rfl)
          try simp only [Act.put, List.setIfInBounds_toArray, List.set_cons_zero, List.set_cons_succ]
          refine wpAnyH_ready (rs := [10]) (by kernel_rfl) (by simp) ?_
          refine AllReadyH.cons (o := ⟨none, _, _, _, _, _⟩) rfl (fun K hK => ?_) AllReadyH.nil
          go_simp
          refine hK.out _ _ ?_ (fun hHeldX => ?_)
          · exact ⟨(B4.out.cell (p := ⟨w.heap.size, 1, none⟩) hO1).trans m1, (B4.out.cell (p := ⟨b', off' + j, none⟩) (by show b' < O; omega)).trans e1⟩
          clear hK K hHeld
          rename _ => hHeld
          try simp only [Act.put, List.setIfInBounds_toArray, List.set_cons_zero, List.set_cons_succ]
          refine wpAnyH_done (by kernel_rfl) ?_ _
          refine NoPanic.normal ?_
          rotate_left
          go_simp
          refine hK.out _ _ ?_ (fun hHeldX => ?_)
          · exact ⟨((dA _).cell (p := ⟨w.heap.size, 1, none⟩) hO1).trans m1, ((dA _).cell (p := ⟨b', off' + j, none⟩) (by show b' < O; omega)).trans e1⟩
          clear hK K hHeld
          rename _ => hHeld
          try simp only [Act.put, List.setIfInBounds_toArray, List.set_cons_zero, List.set_cons_succ]
          refine wpAnyH_ready (rs := [1]) (by kernel_rfl) (by simp) ?_
          refine AllReadyH.cons (o := ⟨some 33, _, _, _, _, _⟩) rfl (fun K hK => ?_) AllReadyH.nil
          go_simp
          refine hK.out _ _ ?_ (fun hHeldX => ?_)
          · exact ⟨((dA _).cell (p := ⟨w.heap.size, 1, none⟩) hO1).trans m1, ((dA _).cell (p := ⟨b', off' + j, none⟩) (by show b' < O; omega)).trans e1⟩
          clear hK K hHeld
          rename _ => hHeld
          try simp only [Act.put, List.setIfInBounds_toArray, List.set_cons_zero, List.set_cons_succ]
          refine wpAnyH_ready (rs := [8]) (by kernel_rfl) (by simp) ?_
          refine AllReadyH.cons (o := ⟨some 40, _, _, _, _, _⟩) rfl (fun K hK => ?_) AllReadyH.nil
          refine step_append_run rfl (.tmp 33) (.tmp 39) 43 rfl _ _ _ _ rfl rfl hrun ?_
          refine hK.out _ _ ?_ (fun hHeldX => ?_)
          · exact ⟨(kB.cell (p := ⟨w.heap.size, 1, none⟩) hO1).trans m1, (kB.cell (p := ⟨b', off' + j, none⟩) (by show b' < O; omega)).trans e1⟩
          clear hK K hHeld
          rename _ => hHeld
          try simp only [Act.put, List.setIfInBounds_toArray, List.set_cons_zero, List.set_cons_succ]
          refine wpAnyH_take (i := 9) (oi := ⟨some 41, _, _, _, _, _⟩) (v := ?_) rfl (by kernel_rfl) (by kernel_rfl) (by kernel_rfl) (fun _ _ _ h => h) (Or.inl ⟨by rfl, ?_⟩) (by assumption) ?_
          rotate_left
          · (intro w hSw; (try dsimp only at hSw); go_simp; try with_reducible rfl)
          try simp only [Act.put, List.setIfInBounds_toArray, List.set_cons_zero, List.set_cons_succ]
          refine wpAnyH_ready (rs := [10]) (by kernel_rfl) (by simp) ?_
          refine AllReadyH.cons (o := ⟨none, _, _, _, _, _⟩) rfl (fun K hK => ?_) AllReadyH.nil
          go_simp
          refine hK.out _ _ ?_ (fun hHeldX => ?_)
          · exact ⟨(B4.out.cell (p := ⟨w.heap.size, 1, none⟩) hO1).trans m1, (B4.out.cell (p := ⟨b', off' + j, none⟩) (by show b' < O; omega)).trans e1⟩
          clear hK K hHeld
          rename _ => hHeld
          try simp only [Act.put, List.setIfInBounds_toArray, List.set_cons_zero, List.set_cons_succ]
          refine wpAnyH_done (by kernel_rfl) ?_ _
          refine NoPanic.normal ?_
          rotate_left
          all_goals
            go_wp2
            have hoc := O4.out
            have bc := B4.out
            clear O4 B4 hrun dA coA kA kB cw fw bst hst co hlc hHeld
            generalize w4.setCell ⟨O, 1, none⟩ (.slice a5 n5 c5) = Wc at hoc bc ⊢
            go_roundw
            case rel =>
              refine ⟨j + 1, M ++ [(pk, pv)], _, _, by omega, by simp; omega, by go_num, ?_, by simpa using hoc, bc⟩
              show _ = _
              rw [H.out, D.out]; simp [dropE, HK.out]
            case measure => simp [intOf]; omega
    · have hf : dropE k E = M := by
        have := H.out
        rw [List.drop_eq_nil_of_le (by omega)] at this
        simpa [dropE] using this
      have HF := Lib.hid hf
      clear hf
      have hRw := (hB.block (w.heap.size + 1) hO2).trans HR3.out
      have r0 : wr.cell? ⟨w.heap.size + 1, 0, none⟩ = some (.slice none 0 0) := by simp [World.cell?, hRw]
      have r1 : wr.cell? ⟨w.heap.size + 1, 1, none⟩ = some (.slice none 0 0) := by simp [World.cell?, hRw]
      have z0 : wr.frozen? ⟨w.heap.size + 1, 0, none⟩ = false := by simp [World.frozen?, hRw]
      have z1 : wr.frozen? ⟨w.heap.size + 1, 1, none⟩ = false := by simp [World.frozen?, hRw]
      have o0 := ho.cell0
      have o1 := ho.cell1
      have q1 := (heap_set2 hRw (.slice ja jn jc)).1
      have q2 := Lib.hid (heap_set2 q1 (.slice ia inn ic)).2
      clear hRw q1
      go_wp2
      have k0 : ((wr.setCell ⟨w.heap.size + 1, 0, none⟩ (.slice ja jn jc)).setCell ⟨w.heap.size + 1, 1, none⟩ (.slice ia inn ic)).cell? ⟨w.heap.size + 1, 0, none⟩ = some (.slice ja jn jc) := by simp only [World.cell?, q2.out]; rfl
      have k1 : ((wr.setCell ⟨w.heap.size + 1, 0, none⟩ (.slice ja jn jc)).setCell ⟨w.heap.size + 1, 1, none⟩ (.slice ia inn ic)).cell? ⟨w.heap.size + 1, 1, none⟩ = some (.slice ia inn ic) := by simp only [World.cell?, q2.out]; rfl
      refine bodyPost_ret (v := .agg #[.slice ja jn jc, .slice ia inn ic]) (by simp only [results, Try.f32]; simp [go_sem, k0, k1]) rfl ⟨_, rfl, ?_, ((BB.out.trans (hB.mono (by omega))).setCell (p := ⟨w.heap.size + 1, 0, none⟩) (by show w.heap.size ≤ w.heap.size + 1; omega) _).setCell (p := ⟨w.heap.size + 1, 1, none⟩) (by show w.heap.size ≤ w.heap.size + 1; omega) _⟩
      rw [HF.out]
      exact ((ho.away (w.heap.size + 1) 0 _ hO2).away (w.heap.size + 1) 1 _ hO2).refFr (by omega)

theorem ref_Drop (v : Value) (E : List Ent) (k : Key) (w : World) (h : RefIn w v E) (hbig : E.length ≤ 10000) :
    Calls Try.prog 32 #[v, keyV k] w fun e w' => ∃ r, e = .returned r ∧ RefIn w' r (dropE k E) ∧ Below w.heap.size w w' :=
  (ref_Drop0 v E k w h hbig).mono fun _ _ ⟨r, h1, h2, h3⟩ => ⟨r, h1, h2.1, h3⟩

end Go.Proofs.Yteigkomefehpjaa
