/- Layer 6 (package sched): a call of a thread's step. -/
import Derived.Test.YtfgkickjjeamgaaMach6
namespace Go.Proofs.Ytfgkickjjeamgaa
open Go.RowKit

theorem info_at {P : Program} {t : TypeId} {z : Option Value} {size bytes : Nat} (h : (P.info? t).map (fun i => (i.zero, i.size, i.bytes)) = some (z, size, bytes)) : ∃ i, P.info? t = some i ∧ i.zero = z ∧ i.size = size ∧ i.bytes = bytes := by
  obtain ⟨i, hi, he⟩ := Option.map_eq_some_iff.1 h
  simp only [Prod.mk.injEq] at he
  exact ⟨i, hi, he.1, he.2.1, he.2.2⟩

/-- One element of a row, written. -/
theorem own_set6 {w : World} {base : Nat} {e : TypeId} {g n cap k : Nat} {xs : List Value} (h : w.ownsRow base e 1 (.slice (some ⟨g, 0, none⟩) n cap) n xs) (u : Value) :
    (w.setCell ⟨g, k, none⟩ u).ownsRow base e 1 (.slice (some ⟨g, 0, none⟩) n cap) n (xs.set k u) := by
  obtain ⟨h0, ⟨h1, _⟩ | ⟨g', cap', cur, h1, h2, h3, h4, h5, h6, h7⟩⟩ := h
  · cases h1
  · cases h1
    have hb : Blk e w g cur.toList := by show w.heap[g]? = _; simpa using h3
    have hb' := hb.set k u
    refine ⟨by simpa using h0, .inr ⟨g, cap, (cur.toList.set k u).toArray, rfl, h2, hb', h4, h5, by simpa using h6, ?_⟩⟩
    rw [← h7]
    simp [List.take_set]

/-- The worlds behind a move: the list of moves is longer, the thread's next step is written. -/
theorem call_worlds {A : Type} {m : Mach A} {K : Nat → Prop} {inv : (Nat → Prop) → A → List Value → World → Prop} (S : Sys m K inv) {base Bm left calls g cap g' cap' k : Nat} {M : Nat → Prop} {mv v' : Value} {vs : List Value} {moves : List Int} {a : A} {w w4 : World} {o : Obj}
    (h : MachIs w base M Bm (.slice (some ⟨g, 0, none⟩) vs.length cap) mv vs left moves calls) (hv : inv M a (vs.set k v') w) (hg : base ≤ g) {u : Value} (hu : vs[k]? = some u)
    (hown : w4.ownsRow base 3 1 (.slice (some ⟨g', 0, none⟩) (moves.length + 1) cap') (moves.length + 1) (moves.map numV ++ [numV k]))
    (hgrow : (w.alloc o).grownBy w4 mv.ownBlock) (hlie : mv.ownBlock = some g' ∨ g' = w.heap.size + 1) :
    Blk 52 w4 Bm [.slice (some ⟨g, 0, none⟩) vs.length cap, numV left, mv, numV calls, numV 0] ∧
    Blk 52 (w4.setCell ⟨Bm, 2, none⟩ (.slice (some ⟨g', 0, none⟩) (moves.length + 1) cap')) Bm [.slice (some ⟨g, 0, none⟩) vs.length cap, numV left, .slice (some ⟨g', 0, none⟩) (moves.length + 1) cap', numV calls, numV 0] ∧
    (w4.setCell ⟨Bm, 2, none⟩ (.slice (some ⟨g', 0, none⟩) (moves.length + 1) cap')).frozen? ⟨g, k, none⟩ = false ∧
    (w4.setCell ⟨Bm, 2, none⟩ (.slice (some ⟨g', 0, none⟩) (moves.length + 1) cap')).cell? ⟨g, k, none⟩ = some u ∧
    MachIs ((w4.setCell ⟨Bm, 2, none⟩ (.slice (some ⟨g', 0, none⟩) (moves.length + 1) cap')).setCell ⟨g, k, none⟩ v') base (fun j => M j ∨ j = g') Bm (.slice (some ⟨g, 0, none⟩) vs.length cap) (.slice (some ⟨g', 0, none⟩) (moves.length + 1) cap') (vs.set k v') left (moves ++ [(k : Int)]) calls ∧
    inv (fun j => M j ∨ j = g') a (vs.set k v') ((w4.setCell ⟨Bm, 2, none⟩ (.slice (some ⟨g', 0, none⟩) (moves.length + 1) cap')).setCell ⟨g, k, none⟩ v') ∧
    Only (fun j => (¬ M j ∧ ¬ K j) ∨ base ≤ j) w ((w4.setCell ⟨Bm, 2, none⟩ (.slice (some ⟨g', 0, none⟩) (moves.length + 1) cap')).setCell ⟨g, k, none⟩ v') := by
  have hgb : Bm ≠ g := blk_apart h.blk h.next rfl (by decide)
  have hog := grown_only hgrow
  have b4 : Blk 52 w4 Bm _ := (h.blk.alloc o).only hog (fun e => blk_apart h.blk h.moves e (by decide) rfl)
  have n4 : w4.ownsRow base 45 1 (.slice (some ⟨g, 0, none⟩) vs.length cap) vs.length vs := own_only (h.next.alloc o) hog (fun j hj e => rows_apart6 h.next h.moves hj e (by decide) rfl)
  have hgb' : Bm ≠ g' := blk_apart b4 hown rfl (by decide)
  have hgg : g ≠ g' := rows_apart6 n4 hown rfl rfl (by decide)
  have b5 := b4.set 2 (.slice (some ⟨g', 0, none⟩) (moves.length + 1) cap')
  have o45 : Only (· = Bm) w4 (w4.setCell ⟨Bm, 2, none⟩ (.slice (some ⟨g', 0, none⟩) (moves.length + 1) cap')) := (Only.refl (· = Bm) w4).setCell (p := ⟨Bm, 2, none⟩) (.inl rfl) _
  have n5 := own_only n4 o45 (fun j hj e => by subst e; simp [Value.ownBlock] at hj; exact hgb hj.symm)
  have m5 := own_only hown o45 (fun j hj e => by subst e; simp [Value.ownBlock] at hj; exact hgb' hj.symm)
  generalize hw5 : w4.setCell ⟨Bm, 2, none⟩ (.slice (some ⟨g', 0, none⟩) (moves.length + 1) cap') = w5 at *
  have o56 : Only (· = g) w5 (w5.setCell ⟨g, k, none⟩ v') := (Only.refl (· = g) w5).setCell (p := ⟨g, k, none⟩) (.inl rfl) _
  have hM : ∀ S : Nat → Prop, (∀ j, mv.ownBlock = some j → S j) → S Bm → S g → Only S w (w5.setCell ⟨g, k, none⟩ v') := fun S h1 h2 h3 =>
    ((((Only.refl S w).alloc o).trans (hog.mono fun j _ e => h1 j e)).trans (o45.mono fun j _ e => by subst e; exact h2)).trans (o56.mono fun j _ e => by subst e; exact h3)
  refine ⟨b4, b5, ?_, ?_, ⟨b5.only o56 (fun e => hgb e), ?_, ?_, .inl h.mb, h.bb, fun j hj => .inl (h.mn j hj), fun j hj => .inr (by simp [Value.ownBlock] at hj; exact hj.symm)⟩, ?_, ?_⟩
  · rcases n5.2 with ⟨h1, _⟩ | ⟨g2, c2, cur, h1, _, h3, _⟩
    · cases h1
    · cases h1
      simp [World.frozen?, h3]
  · have := n5.cells (g := g) rfl k _ hu
    rwa [addr_add, Nat.zero_add] at this
  · rw [List.length_set]; exact own_set6 n5 v'
  · have := own_only m5 o56 (fun j hj e => by subst e; simp [Value.ownBlock] at hj; exact hgg hj.symm)
    simpa using this
  · have hfr := hM (fun j => M j ∨ j = g') (fun j hj => .inl (h.mm j hj)) (.inl h.mb) (.inl (h.mn g rfl))
    rcases hlie with e | e
    · have : (fun j => M j ∨ j = g') = M := funext fun j => propext ⟨fun hj => by
        rcases hj with hj | rfl
        · exact hj
        · exact h.mm _ e, .inl⟩
      rw [this] at hfr ⊢
      exact S.still hv hfr
    · exact S.more hv (by omega) (by have h6 := (hown.lt g' rfl).2; have h7 := o45.size; have h8 := o56.size; omega) hfr
  · exact hM _ (fun j hj => .inr ((h.moves.lt j hj).1)) (.inr h.bb) (.inr hg)

/-- One thread less. -/
theorem MachIs.less {w : World} {base Bm left left' calls : Nat} {M : Nat → Prop} {nv mv : Value} {vs : List Value} {moves : List Int} (h : MachIs w base M Bm nv mv vs left moves calls) (hl : left = left' + 1) :
    MachIs (w.setCell ⟨Bm, 1, none⟩ (.int .i64 ((left : Int) - 1))) base M Bm nv mv vs left' moves calls := by
  have ho : Only (· = Bm) w (w.setCell ⟨Bm, 1, none⟩ (.int .i64 ((left : Int) - 1))) := (Only.refl (· = Bm) w).setCell (p := ⟨Bm, 1, none⟩) (.inl rfl) _
  refine ⟨?_, own_only h.next ho (fun k hk e => by subst e; exact blk_apart h.blk h.next hk (by decide) rfl), own_only h.moves ho (fun k hk e => by subst e; exact blk_apart h.blk h.moves hk (by decide) rfl), h.mb, h.bb, h.mn, h.mm⟩
  have := h.blk.set 1 (.int .i64 ((left : Int) - 1))
  rw [show ((left : Int) - 1) = (left' : Int) by omega] at this ⊢
  exact this
/-- What comes of a call of a step. -/
structure CallTo {A : Type} (m : Mach A) (K : Nat → Prop) (inv : (Nat → Prop) → A → List Value → World → Prop) (base : Nat) (M : Nat → Prop) (Bm : Nat) (nv : Value) (s : RS A) (w w' : World) : Prop where
  ex : ∃ M' mv' vs', (∀ k, M k → M' k) ∧ MachIs w' base M' Bm nv mv' vs' (leftN m s.a) s.moves s.calls ∧ inv M' s.a vs' w'
  only : Only (fun k => (¬ M k ∧ ¬ K k) ∨ base ≤ k) w w'
theorem mach_call_go {A : Type} {m : Mach A} {K : Nat → Prop} {inv : (Nat → Prop) → A → List Value → World → Prop} (S : Sys m K inv) {base Bm calls : Nat} {M : Nat → Prop} {nv mv : Value} {vs : List Value} {moves : List Int} {a : A} {w : World}
    (h : MachIs w base M Bm nv mv vs (leftN m a) moves calls) (hv : inv M a vs w) (k : Nat) {f : Nat} {c : Array Value} (hk : vs[k]? = some (fnV f c)) (hf : Enters f) (hb : base ≤ w.heap.size) (hl : moves.length ≤ 1000000) (hc : calls ≤ 1000000000000000) (hmn : m.n ≤ 1000000)
    (s' : RS A) (hs : s' = ⟨(m.go a k).1, if (m.go a k).2 = true then moves ++ [(k : Int)] else moves, calls + 1⟩) :
    Calls Try.prog 23 #[.pointer (some ⟨Bm, 0, none⟩), .int .i64 (k : Int)] w fun e w' => (∃ x, e = .returned x) ∧
      CallTo m K inv base M Bm nv s' w w' := by
  have hlt : k < vs.length := (List.getElem?_eq_some_iff.1 hk).1
  obtain ⟨g, cap, rfl, hg⟩ : ∃ g cap, nv = .slice (some ⟨g, 0, none⟩) vs.length cap ∧ base ≤ g := by
    rcases h.next.2 with ⟨_, h0⟩ | ⟨g, cap, cur, hnv, hbg, _⟩
    · omega
    · exact ⟨g, cap, hnv, hbg⟩
  have c0 := h.blk.at (o := 0) rfl
  have c3 := h.blk.at (o := 3) rfl
  have f3 := h.blk.frozen 3
  have hcell := h.next.cells (g := g) rfl k _ hk
  rw [addr_add, Nat.zero_add] at hcell
  have hgb : Bm ≠ g := blk_apart h.blk h.next rfl (by decide)
  -- the count of calls, written
  have h1 : MachIs (w.setCell ⟨Bm, 3, none⟩ (numV (calls + 1 : Nat))) base M Bm (.slice (some ⟨g, 0, none⟩) vs.length cap) mv vs (leftN m a) moves (calls + 1) := by
    have ho : Only (· = Bm) w (w.setCell ⟨Bm, 3, none⟩ (numV (calls + 1 : Nat))) := (Only.refl (· = Bm) w).setCell (p := ⟨Bm, 3, none⟩) (.inl rfl) _
    exact ⟨h.blk.set 3 _, own_only h.next ho (fun k hk e => by subst e; simp [Value.ownBlock] at hk; exact hgb hk.symm), own_only h.moves ho (fun k hk e => by subst e; exact blk_apart h.blk h.moves hk (by decide) rfl), h.mb, h.bb, h.mn, h.mm⟩
  have o1 : Only M w (w.setCell ⟨Bm, 3, none⟩ (numV (calls + 1 : Nat))) := (Only.refl _ _).setCell (p := ⟨Bm, 3, none⟩) (.inl h.mb) _
  have hv1 := S.still hv o1
  have o1' : Only (fun k => (¬ M k ∧ ¬ K k) ∨ base ≤ k) w (w.setCell ⟨Bm, 3, none⟩ (numV (calls + 1 : Nat))) := (Only.refl _ _).setCell (p := ⟨Bm, 3, none⟩) (.inl (.inr h.bb)) _
  have d0 := h1.blk.at (o := 0) rfl
  have hcell1 := h1.next.cells (g := g) rfl k _ hk
  rw [addr_add, Nat.zero_add] at hcell1
  have hs1 : base ≤ (w.setCell ⟨Bm, 3, none⟩ (numV (calls + 1 : Nat))).heap.size := Nat.le_trans hb o1.size
  have heq := eql_step_nil f c
  have hent : ∀ (args : Array Value) (w : World), (callFunc f args).run Try.prog w = .ok (.enter f args) w := hf
  have hcast : ((calls + 1 : Nat) : Int) = (calls : Int) + 1 := by omega
  rw [hcast] at h1 o1 hv1 o1' d0 hcell1 hs1
  have H := Lib.hid (And.intro h1 (And.intro hv1 (And.intro o1' hs1)))
  clear h h1 hv1 o1 o1' hs1 hv
  go_enter Try.func23, Try.ntmps23
  go_wp2_with fail
  refine (S.step H.out.2.1 k f c hk).mono ?_
  rintro e w2 ⟨v', rfl, ho2, hv2⟩
  have h2 : MachIs w2 base M Bm (.slice (some ⟨g, 0, none⟩) vs.length cap) mv vs (leftN m a) moves (calls + 1) := ⟨H.out.1.blk.only ho2 (fun e => e.1 H.out.1.mb), own_only H.out.1.next ho2 (fun j hj e => e.1 (H.out.1.mn j hj)), own_only H.out.1.moves ho2 (fun j hj e => e.1 (H.out.1.mm j hj)), H.out.1.mb, H.out.1.bb, H.out.1.mn, H.out.1.mm⟩
  have hb2 : base ≤ w2.heap.size := Nat.le_trans H.out.2.2.2 ho2.size
  have o2 : Only (fun k => (¬ M k ∧ ¬ K k) ∨ base ≤ k) w w2 := H.out.2.2.1.trans (ho2.mono fun _ _ h => .inl h)
  have hval := S.val H.out.2.1
  have hval2 := S.val hv2
  have hn := S.len H.out.2.1
  clear H ho2
  rcases hgo : m.go a k with ⟨a', b⟩
  rw [hgo] at hv2 hval2 hs
  clear hgo
  have hfar : ∀ u, u < m.n → u ≠ k → m.fin a' u = m.fin a u := fun t ht hne => by
    have ht' : t < vs.length := by omega
    have hsame : (if b = true then vs.set k v' else vs)[t]? = some vs[t] := by
      split
      · rw [List.getElem?_set_ne (fun e => hne e.symm), List.getElem?_eq_getElem ht']
      · rw [List.getElem?_eq_getElem ht']
    rcases hval t _ (List.getElem?_eq_getElem ht') with ⟨e1, e2⟩ | ⟨f1, c1, e1, _, e2⟩ <;> rcases hval2 t _ hsame with ⟨e3, e4⟩ | ⟨f3, c3, e3, _, e4⟩
    · rw [e2, e4]
    · rw [e1] at e3; cases e3
    · rw [e1] at e3; cases e3
    · rw [e2, e4]
  have hfin0 : m.fin a k = false := by
    rcases hval k _ hk with ⟨e1, _⟩ | ⟨_, _, _, _, e2⟩
    · cases e1
    · exact e2
  have hL := leftN_turn (m := m) (by omega) hfin0 hfar
  have hle := leftN_le (m := m) a
  cases b
  · simp only [Bool.false_eq_true, if_false] at hv2 hval2 hs
    have hL' : leftN m a = leftN m a' := by
      rcases hval2 k _ hk with ⟨e1, _⟩ | ⟨_, _, _, _, e2⟩
      · cases e1
      · simpa [e2] using hL
    have H : Hid (CallTo m K inv base M Bm (.slice (some ⟨g, 0, none⟩) vs.length cap) s' w w2) := Lib.hid (by
      subst hs
      exact ⟨⟨M, mv, vs, fun _ h => h, hL' ▸ h2, hv2⟩, o2⟩)
    clear h2 hv2 o2 hL hL' hval hval2 hn hs hfar hfin0 hle
    go_wp2
    ((try simp only [Exit.inBlock, Exit.then]); refine bodyPost_ret (results_none rfl _ _ _) rfl ?_)
    exact ⟨⟨_, rfl⟩, H.out⟩
  · simp only [if_true] at hv2 hval2 hs
    have e2 := h2.blk.at (o := 2) rfl
    obtain ⟨ma, mc, rfl⟩ : ∃ ma mc, mv = .slice ma moves.length mc := by
      rcases h2.moves.2 with ⟨rfl, h0⟩ | ⟨g, cap, cur, rfl, _⟩
      · exact ⟨none, 0, by rw [h0]⟩
      · exact ⟨_, _, rfl⟩
    obtain ⟨i0, hi, hz0, hz1, hz2⟩ := info_at infoInt
    have hmv := h2.moves
    have H := Lib.hid (And.intro h2 (And.intro hv2 o2))
    have HS := Lib.hid hs
    have hval3 := hval2 k v' (by rw [List.getElem?_set_self hlt])
    clear h2 hv2 o2 hval hval2 hs hn hfar hfin0
    rcases hval3 with ⟨rfl, hfk⟩ | ⟨f1, c1, rfl, _, hfk⟩
    · have hq := eql_nil_nil
      have hsf := fun (a : Addr) (w : World) => run_store Try.prog w a .nilFunc .plain rfl
      have L := Lib.hid (show leftN m a = leftN m a' + 1 by simpa [hfk] using hL)
      have hsub1 : 1 ≤ leftN m a := by rw [L.out]; omega
      have hsub2 : leftN m a ≤ 1000000 := by omega
      clear hL hfk
      go_wp2_with (at_builtin; refine wpList_append_lies _ rfl _ _ 22 rfl base 3 i0 (.int .i64 0) 1 8 Try.underlying22 hi hz0 hz1 hz2 rfl (by decide) _ _ _ rfl (hmv.alloc _) ⟨w2.heap.size, 0, none⟩ 1 1 [.int .i64 (k : Int)] rfl rfl (cell_one_new _ _ _) (by simp [Value.oneCell']) (by decide) (by simp only [maxLen]; omega) (by omega) (by simp; omega) (w2.heap.size + 1) (by simp) ?_; intro g' cap' w4 hown hgrow hlie hlt4; clear hmv; obtain ⟨b4, b5, z5, x5, KK⟩ := call_worlds S H.out.1 H.out.2.1 hg hk hown hgrow hlie; have z4 := b4.frozen 2; have x4 := b4.at (o := 2) rfl; have y5 := b5.at (o := 0) rfl; have y6 := KK.1.blk.at (o := 1) rfl; have z6 := KK.1.blk.frozen 1; have K' := Lib.hid KK; clear KK b4 b5 hown hgrow hlie hlt4)
      go_end0
      obtain rfl := HS.out
      refine ⟨⟨_, rfl⟩, ⟨⟨fun j => M j ∨ j = g', _, _, fun _ h => .inl h, K'.out.1.less L.out, S.still K'.out.2.1 ((Only.refl _ _).setCell (p := ⟨Bm, 1, none⟩) (.inl K'.out.1.mb) _)⟩, ?_⟩⟩
      exact (H.out.2.2.trans K'.out.2.2).setCell (p := ⟨Bm, 1, none⟩) (.inl (.inr H.out.1.bb)) _
    · have hq := eql_step_nil f1 c1
      have hsf := fun (a : Addr) (w : World) => run_store Try.prog w a (fnV f1 c1) .plain rfl
      have L := Lib.hid (show leftN m a = leftN m a' by simpa [hfk] using hL)
      clear hL hfk
      go_wp2_with (at_builtin; refine wpList_append_lies _ rfl _ _ 22 rfl base 3 i0 (.int .i64 0) 1 8 Try.underlying22 hi hz0 hz1 hz2 rfl (by decide) _ _ _ rfl (hmv.alloc _) ⟨w2.heap.size, 0, none⟩ 1 1 [.int .i64 (k : Int)] rfl rfl (cell_one_new _ _ _) (by simp [Value.oneCell']) (by decide) (by simp only [maxLen]; omega) (by omega) (by simp; omega) (w2.heap.size + 1) (by simp) ?_; intro g' cap' w4 hown hgrow hlie hlt4; clear hmv; obtain ⟨b4, b5, z5, x5, KK⟩ := call_worlds S H.out.1 H.out.2.1 hg hk hown hgrow hlie; have z4 := b4.frozen 2; have x4 := b4.at (o := 2) rfl; have y5 := b5.at (o := 0) rfl; have y6 := KK.1.blk.at (o := 1) rfl; have z6 := KK.1.blk.frozen 1; have K' := Lib.hid KK; clear KK b4 b5 hown hgrow hlie hlt4)
      go_end0
      obtain rfl := HS.out
      exact ⟨⟨_, rfl⟩, ⟨⟨fun j => M j ∨ j = g', _, _, fun _ h => .inl h, L.out ▸ K'.out.1, K'.out.2.1⟩, H.out.2.2.trans K'.out.2.2⟩⟩

/-- A call of any thread. -/
theorem stand_call {A : Type} {m : Mach A} {K : Nat → Prop} {inv : (Nat → Prop) → A → List Value → World → Prop} (S : Sys m K inv) {base Bm : Nat} {M0 : Nat → Prop} {nv : Value} {s : RS A} {w : World} (h : Stand m inv base M0 Bm nv s w) (t : Int)
    (hl : s.moves.length ≤ 1000000) (hc : s.calls ≤ 1000000000000000) (hmn : m.n ≤ 1000000) :
    Calls Try.prog 23 #[.pointer (some ⟨Bm, 0, none⟩), .int .i64 t] w fun e w' => (∃ x, e = .returned x) ∧ Stand m inv base M0 Bm nv (s.call m t) w' ∧ Turns base M0 K w w' := by
  obtain ⟨hb, M, mv, vs, h0, h1, h2⟩ := h
  have hn := S.len h2
  by_cases hi : s.idle m t
  · rw [RS.call_idle hi]
    refine (mach_call_idle h1 t ?_).mono ?_
    · rcases hi with hi | hi | hi
      · exact .inl hi
      · exact .inr (.inl (by rw [hn]; exact hi))
      · by_cases ht : t < 0
        · exact .inl ht
        · by_cases ht' : (vs.length : Int) ≤ t
          · exact .inr (.inl ht')
          · have hlt : t.toNat < vs.length := by omega
            rcases S.val h2 t.toNat _ (List.getElem?_eq_getElem hlt) with ⟨e1, _⟩ | ⟨_, _, _, _, e2⟩
            · exact .inr (.inr (by rw [List.getElem?_eq_getElem hlt, e1]))
            · rw [e2] at hi; cases hi
    · rintro e w' ⟨he, rfl⟩
      exact ⟨he, ⟨hb, M, mv, vs, h0, h1, h2⟩, Only.refl _ _⟩
  · rw [RS.call_go hi]
    unfold RS.idle at hi
    obtain ⟨k, rfl⟩ : ∃ k : Nat, t = k := ⟨t.toNat, by omega⟩
    simp only [Int.toNat_natCast] at hi ⊢
    have hlt : k < vs.length := by omega
    rcases S.val h2 k _ (List.getElem?_eq_getElem hlt) with ⟨_, e1⟩ | ⟨f, c, e1, hf, _⟩
    · exact absurd (.inr (.inr e1)) hi
    · refine (mach_call_go S h1 h2 k (f := f) (c := c) (by rw [List.getElem?_eq_getElem hlt, e1]) hf hb hl hc hmn _ rfl).mono ?_
      rintro e w' ⟨he, ⟨M', mv', vs', k1, k2, k3⟩, ko⟩
      exact ⟨he, ⟨Nat.le_trans hb ko.size, M', mv', vs', fun j hj => k1 j (h0 j hj), k2, k3⟩, ko.mono fun j _ hj => hj.imp (fun h => ⟨fun hM => h.1 (h0 j hM), h.2⟩) id⟩

end Go.Proofs.Ytfgkickjjeamgaa
