/- Layer 14 (package walk): where the iterator of Pairs stands in memory. -/
import Derived.Test.YtabgedmocdjkcaaSpots14
import Derived.Deep.RegionLaw
import Derived.Deep.LoopGhost
import Derived.Deep.CutBlock
namespace Go.Proofs.Ytabgedmocdjkcaa
open Go.RowKit Go.Shelf

theorem own_take {w : World} {base n m size c : Nat} {e : TypeId} {a : Option Addr} {xs : List Value} (h : w.ownsRow base e size (.slice a n c) n xs) (hm : m ≤ n) : w.ownsRow base e size (.slice a m c) m (xs.take (m * size)) := by
  obtain ⟨h0, ⟨h1, h2⟩ | ⟨g, cap, cur, h1, hb, h2, h3, h4, h5, h6⟩⟩ := h
  · cases h1
    obtain rfl : m = 0 := by omega
    exact ⟨by simp, .inl ⟨rfl, rfl⟩⟩
  · cases h1
    have hmul := Nat.mul_le_mul_right size hm
    refine ⟨by rw [List.length_take, h0]; omega, .inr ⟨g, c, cur, rfl, hb, h2, by omega, h4, h5, ?_⟩⟩
    rw [← h6, List.take_take, Nat.min_eq_left hmul]
theorem own_texts {w : World} {base n c : Nat} {a : Option Addr} {l : List Key} (h : w.ownsRow base 9 1 (.slice a n c) n (l.map keyV)) : TextsIn w a l ∧ l.length = n ∧ n ≤ c := by
  have hl : l.length = n := by have := h.1; simpa using this
  rcases (SliceK.of_own h).2 with ⟨h1, h2⟩ | ⟨b, off, cap, h1, h2, h3, h4⟩
  · cases h1
    obtain rfl : l = [] := List.eq_nil_of_length_eq_zero hl
    exact ⟨fun i x hx => by simp at hx, hl, Nat.le_refl _⟩
  · cases h1
    exact ⟨fun i x hx => ⟨b, off, rfl, h3, h4 i _ (by rw [List.getElem?_map, hx]; rfl)⟩, hl, h2⟩
theorem spots_at {w : World} {base : Nat} {v : Value} {s : List Spo} {x : Spo} (h : w.ownsRow base 50 3 v (s.length + 1) ((x :: s).reverse.flatMap spotV)) :
    ∃ g cap, v = .slice (some ⟨g, 0, none⟩) (s.length + 1) cap ∧ g < w.heap.size ∧ s.length + 1 ≤ cap ∧ ∀ j u, (spotV x)[j]? = some u → w.cell? ⟨g, s.length * 3 + j, none⟩ = some u := by
  obtain ⟨h0, ⟨h1, h2⟩ | ⟨g, cap, cur, h1, hb, h2, h3, h4, h5, h6⟩⟩ := h
  · omega
  · refine ⟨g, cap, h1, (Array.getElem?_eq_some_iff.1 h2).1, h3, fun j u hu => ?_⟩
    have hb : Blk 50 w g cur.toList := by show w.heap[g]? = _; simpa using h2
    have hx : (x :: s).reverse[s.length]? = some x := by simp
    have hv := flat_at spotV_len hx hu
    refine hb.at ?_
    rw [← h6] at hv
    rw [List.getElem?_take] at hv
    split at hv
    · exact hv
    · cases hv
theorem flat_pre (s : List Spo) (x : Spo) : ((x :: s).reverse.flatMap spotV).take (s.length * 3) = s.reverse.flatMap spotV := by
  rw [List.reverse_cons, List.flatMap_append]
  rw [List.take_left' (by rw [flat_len spotV_len, List.length_reverse])]
/-- What is appended may be nothing. -/
theorem spots_append (W : World) (base base' : Nat) (ty : TypeId) (v u : Value) (A R : List Spo) (h : W.ownsRow base 50 3 v A.length (A.flatMap spotV)) (hu : W.ownsRow base' 50 3 u R.length (R.flatMap spotV)) (hbig : A.length + R.length ≤ 1000000) (hbase : base ≤ W.heap.size) :
    ∃ v' w', (Builtin.append_ #[47, 47] ty #[v, u]).run Try.prog W = .ok v' w' ∧ w'.ownsRow base 50 3 v' (A ++ R).length ((A ++ R).flatMap spotV) ∧ Only (fun k => v.ownBlock = some k) W w' ∧ (v'.ownBlock = v.ownBlock ∨ v'.ownBlock = some W.heap.size) := by
  obtain ⟨i0, hi, hz0, hz1, hz2⟩ := info_parts infoSpot
  rcases (SliceK.of_own hu).2 with ⟨rfl, h0⟩ | ⟨b, off, cap, rfl, _, _, hc⟩
  · obtain rfl : R = [] := List.eq_nil_of_length_eq_zero h0
    rw [List.append_nil]
    exact ⟨v, W, run_append_owned_none (P := Try.prog) (w := W) base 47 ty 50 i0 3 Try.underlying47 hi v _ _ h, h, Only.refl _ _, .inl rfl⟩
  · obtain ⟨v', w', h1, h2, h3, _, h5⟩ := run_append_own_at (P := Try.prog) W base 47 ty 50 i0 (.agg #[.int .i64 0, .string ⟨#[]⟩, .pointer none]) 3 32 Try.underlying47 hi hz0 hz1 hz2 rfl (by decide) v _ _ h ⟨b, off, none⟩ R.length cap (R.flatMap spotV) (flat_len spotV_len R) hc.get
      (fun u hu => by
        obtain ⟨x, _, hx⟩ := List.mem_flatMap.1 hu
        exact spotV_one x u hx) (by simp only [maxLen]; omega) (by omega) hbase
    exact ⟨v', w', h1, by rw [List.length_append, List.flatMap_append]; exact h2, grown_only h3, h5⟩
/-- 'append' by its run's equation, at a step of a region that draws. -/
theorem step_append_run {P : Program} {ops : Array Oper} {o : Oper} {a : Act} {w : World} {K : Act → World → Prop} {Q : Exit → Act → World → Prop} {E : Prop} (hgd : o.guard = none) (s x : Operand) (t : TypeId)
    (ho : o.op = .call { callee := .builtin .append, args := #[s, x], argTypes := #[t, t] }) (v u v' : Value) (w' : World) (hs : a.eval s = v) (hx : a.eval x = u) (hr : (Builtin.append_ #[t, t] o.type #[v, u]).run P w = .ok v' w') (h : K (a.put o.dst v') w') :
    if Region.wanted o (yielded ops a.tmps) = true then Oper.wp P o a w K Q else E := by
  have hw : Region.wanted o (yielded ops a.tmps) = true := by simp [Region.wanted, hgd]
  rw [if_pos hw]
  unfold Oper.wp execOp
  simp only [ho, resolve, invoke, builtin, Sem.run_bind, Sem.run_pure, Result.andThen_ok, List.map_toArray, List.map_cons, List.map_nil, hs, hx, hr]
  exact h
theorem kids_nd {S : Nat → Prop} {W : World} (a : Nat) : ∀ {F : Fo}, FoIs S W F → ∀ y ∈ kidsOf a F, NodeIs S W (some (y.2.2.1, y.L, y.F))
  | .nil, _, y, hy => by simp [kidsOf] at hy
  | .cons k b L F R, h, y, hy => by
    rw [kidsOf, List.mem_cons] at hy
    rcases hy with rfl | hy
    · exact ⟨h.1, h.2.1⟩
    · exact kids_nd a h.2.2 y hy

/-- Where the iterator stands: pre is told, lvs are the levels, st the stack (its top first). -/
structure PMem (J : (Nat → Prop) → List Pr → World → Prop) (C : Nat → Prop) (W : World) (n₀ : Nat) (C1 : Nat → Prop) (pre : List Pr) (lvs : List Key) (st : List Spo) (lv lf : Value) (Wx : World) : Prop where
  onl : Only C W Wx
  gr : Grow C C1 W
  wn : Wn C1 Wx
  j : J C1 pre Wx
  rl : Wx.ownsRow W.heap.size 9 1 lv lvs.length (lvs.map keyV)
  rs : Wx.ownsRow W.heap.size 50 3 lf st.length (st.reverse.flatMap spotV)
  nl : ∀ k, lv.ownBlock = some k → ¬ C1 k
  ns : ∀ k, lf.ownBlock = some k → ¬ C1 k
  nd : ∀ x ∈ st, NodeIs (fun k => n₀ ≤ k) W (some (x.2.2.1, x.L, x.F))
/-- What is told, what is to be told. -/
structure PAll (M : Nat) (PR pre : List Pr) (lvs : List Key) (st : List Spo) : Prop where
  all : pre ++ spPr lvs st = PR
  ok : StOk M lvs st
  big : stN st ≤ M
section
variable {J Jx : (Nat → Prop) → List Pr → World → Prop} {C C1 C2 : Nat → Prop} {W Wx Wy : World} {n₀ M : Nat} {PR pre pre' : List Pr} {lvs lvs' : List Key} {x : Spo} {s st : List Spo} {lv lv' lf lf' : Value}
/-- What isn't the caller's may be turned but for the rows. -/
theorem PMem.turn (h : PMem J C W n₀ C1 pre lvs st lv lf Wx) (hJ : Stab J) {S : Nat → Prop} (ho : Only S Wx Wy) (h1 : ∀ k, S k → ¬ C1 k) (h2 : ∀ k, S k → W.heap.size ≤ k) (h3 : ∀ k, lv.ownBlock = some k → ¬ S k) (h4 : ∀ k, lf.ownBlock = some k → ¬ S k) : PMem J C W n₀ C1 pre lvs st lv lf Wy :=
  { h with
    onl := h.onl.step ho fun k hk hs => by have := h2 k hs; omega
    wn := h.wn.le ho.size
    j := hJ _ _ _ _ h.j h.wn (ho.mono fun k _ hs => h1 k hs)
    rl := own_only h.rl ho h3
    rs := own_only h.rs ho h4 }
theorem PMem.below (h : PMem J C W n₀ C1 pre lvs st lv lf Wx) (hJ : Stab J) (hb : Below Wx.heap.size Wx Wy) : PMem J C W n₀ C1 pre lvs st lv lf Wy :=
  h.turn hJ (Only.of_below hb (fun _ => False)) (fun _ h => h.elim) (fun _ h => h.elim) (fun _ _ h => h) (fun _ _ h => h)
theorem PMem.apart (h : PMem J C W n₀ C1 pre lvs st lv lf Wx) : ∀ k, lv.ownBlock = some k → ¬ lf.ownBlock = some k := fun k h1 h2 => by
  obtain ⟨l, cap, _, _, hb, _⟩ := own_heap h.rl h1
  exact blk_apart hb h.rs h2 (by decide) rfl
/-- The levels turned. -/
theorem PMem.level (h : PMem J C W n₀ C1 pre lvs st lv lf Wx) (hJ : Stab J) (ho : Only (fun k => lv.ownBlock = some k) Wx Wy) (hr : Wy.ownsRow W.heap.size 9 1 lv' lvs'.length (lvs'.map keyV)) (hn : ∀ k, lv'.ownBlock = some k → lv.ownBlock = some k ∨ Wx.heap.size ≤ k) : PMem J C W n₀ C1 pre lvs' st lv' lf Wy :=
  { h with
    onl := h.onl.step ho fun k hk hs => by have := (own_lt h.rl hs).1; omega
    wn := h.wn.le ho.size
    j := hJ _ _ _ _ h.j h.wn (ho.mono fun k _ hs => h.nl k hs)
    rl := hr
    rs := own_only h.rs ho fun k hk e => h.apart k e hk
    nl := fun k hk hc => (hn k hk).elim (fun e => h.nl k e hc) fun e => by have := h.wn k hc; omega }
/-- The stack turned. -/
theorem PMem.stack (h : PMem J C W n₀ C1 pre lvs st lv lf Wx) (hJ : Stab J) {st' : List Spo} (ho : Only (fun k => lf.ownBlock = some k) Wx Wy) (hr : Wy.ownsRow W.heap.size 50 3 lf' st'.length (st'.reverse.flatMap spotV)) (hn : ∀ k, lf'.ownBlock = some k → lf.ownBlock = some k ∨ Wx.heap.size ≤ k) (hnd : ∀ x ∈ st', NodeIs (fun k => n₀ ≤ k) W (some (x.2.2.1, x.L, x.F))) : PMem J C W n₀ C1 pre lvs st' lv lf' Wy :=
  { h with
    onl := h.onl.step ho fun k hk hs => by have := (own_lt h.rs hs).1; omega
    wn := h.wn.le ho.size
    j := hJ _ _ _ _ h.j h.wn (ho.mono fun k _ hs => h.ns k hs)
    rl := own_only h.rl ho fun k hk e => h.apart k hk e
    rs := hr
    ns := fun k hk hc => (hn k hk).elim (fun e => h.ns k e hc) fun e => by have := h.wn k hc; omega
    nd := hnd }
/-- Behind what the caller did. -/
theorem PMem.told (h : PMem J C W n₀ C1 pre lvs st lv lf Wx) (hg : Grow C1 C2 Wx) (ho : Only C1 Wx Wy) (hw : Wn C2 Wy) (hj : J C2 pre' Wy) : PMem J C W n₀ C2 pre' lvs st lv lf Wy :=
  { onl := h.onl.grow ho h.gr, gr := h.gr.trans hg h.onl.size, wn := hw, j := hj, rl := own_only h.rl ho h.nl, rs := own_only h.rs ho h.ns
    nl := fun k hk => hg.not (own_lt h.rl hk).2 (h.nl k hk), ns := fun k hk => hg.not (own_lt h.rs hk).2 (h.ns k hk), nd := h.nd }
theorem PAll.step (h : PAll M PR pre lvs (x :: s)) : PAll M PR (pre ++ ndPr (lvs.take x.1 ++ [x.2.1]) x.L) (lvs.take x.1 ++ [x.2.1]) (kidsOf (x.1 + 1) x.F ++ s) := by
  refine ⟨?_, h.ok.step, ?_⟩
  · rw [List.append_assoc, ← spPr_step h.ok]; exact h.all
  · have := h.big
    rw [stN_cons] at this
    rw [stN_app, stN_kids]; omega
theorem PAll.part (h : PAll M PR pre lvs (x :: s)) : pre ++ ndPr (lvs.take x.1 ++ [x.2.1]) x.L <+: PR := by
  have := h.step.all
  exact ⟨_, this⟩
end
end Go.Proofs.Ytabgedmocdjkcaa
