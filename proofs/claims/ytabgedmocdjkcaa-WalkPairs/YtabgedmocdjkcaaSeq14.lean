/- Ranges over a function whose iterator has blocks of its own that it turns between two rounds: who owns what is told by a set of blocks C, the caller's. Whatever program. -/
import Derived.Test.YtabgedmocdjkcaaJoin18
import Derived.Test.YtabgedmocdjkcaaJoin4
import Derived.RangeFuncNested
import Derived.RangeFuncLeaves
namespace Go.Proofs.Ytabgedmocdjkcaa
open Go Go.RowKit

/-- What the caller has grown to is what it had, and what is new. -/
def Grow (C C' : Nat → Prop) (W : World) : Prop := ∀ k, C' k → C k ∨ W.heap.size ≤ k
def Wn (C : Nat → Prop) (W : World) : Prop := ∀ k, C k → k < W.heap.size
/-- It abides the turn of whatever isn't its own. -/
def Stab {α : Type} (J : (Nat → Prop) → List α → World → Prop) : Prop := ∀ C s W W', J C s W → Wn C W → Only (fun k => ¬ C k) W W' → J C s W'
theorem Grow.refl (C : Nat → Prop) (W : World) : Grow C C W := fun _ h => .inl h
theorem Grow.trans {A B C : Nat → Prop} {W W' : World} (h : Grow A B W) (k : Grow B C W') (hs : W.heap.size ≤ W'.heap.size) : Grow A C W := fun i hi => (k i hi).elim (h i) fun h => .inr (Nat.le_trans hs h)
theorem Grow.le {A B : Nat → Prop} {W W' : World} (h : Grow A B W') (hs : W.heap.size ≤ W'.heap.size) : Grow A B W := fun i hi => (h i hi).imp id fun h => Nat.le_trans hs h
theorem Only.grow {A B : Nat → Prop} {W W' W'' : World} (h : Only A W W') (k : Only B W' W'') (hg : Grow A B W) : Only A W W'' :=
  h.step k fun i hi hb => (hg i hb).elim id fun h => by omega
theorem Grow.not {A B : Nat → Prop} {W : World} {k : Nat} (h : Grow A B W) (hk : k < W.heap.size) (hn : ¬ A k) : ¬ B k := fun hb => (h k hb).elim hn fun h => by omega
theorem Wn.not {C : Nat → Prop} {W : World} (h : Wn C W) {k : Nat} (hk : W.heap.size ≤ k) : ¬ C k := fun hc => by have := h k hc; omega
theorem Wn.le {C : Nat → Prop} {W W' : World} (h : Wn C W) (hs : W.heap.size ≤ W'.heap.size) : Wn C W' := fun k hk => Nat.lt_of_lt_of_le (h k hk) hs
theorem Only.putObj {S : Nat → Prop} {a w : World} (h : Only S a w) {l : Nat} (o : Obj) (hl : S l ∨ a.heap.size ≤ l) : Only S a (w.putObj l o) :=
  ⟨h.os, h.tape, h.output, by simpa using h.size, fun i hi hs => (World.putObj_heap_other (by rintro rfl; rcases hl with hl | hl; exact hs hl; omega)).trans (h.block i hi hs)⟩

/-- One round, from within the iterator's run. -/
def RoundO {α : Type} (P : Program) (l : Nat) (encs : α → Array Value) (J Jx : (Nat → Prop) → List α → World → Prop) (C : Nat → Prop) (pre : List α) (x : α) (W : World) : Prop :=
  ∀ m, YieldAt Fence.wide m P l (encs x) W fun e W' => ∃ C', Grow C C' W ∧ Only C W W' ∧ Wn C' W' ∧ ((e = .returned (.bool true) ∧ J C' (pre ++ [x]) W') ∨ (e = .returned (.bool false) ∧ Jx C' (pre ++ [x]) W'))
/-- What an iterator promises. -/
def SeqO {α : Type} (P : Program) (g : Nat) (lb : Array Value) (encs : α → Array Value) (A : Nat → Prop) (S Sp : List α → Prop) (w : World) : Prop :=
  ∀ (l : Nat) (J Jx : (Nat → Prop) → List α → World → Prop) (C : Nat → Prop) (W : World), Below w.heap.size w W → (∀ k, C k → A k ∨ w.heap.size ≤ k) → Wn C W → Stab J → Stab Jx →
    (∀ C1 pre x W1, Sp (pre ++ [x]) → J C1 pre W1 → Grow C C1 W → Only C W W1 → Wn C1 W1 → RoundO P l encs J Jx C1 pre x W1) → J C [] W →
    Calls P g (#[.func (.yield l) #[] #[]] ++ lb) W fun e W' => (∃ v, e = .returned v) ∧ ∃ C', Grow C C' W ∧ Only C W W' ∧ Wn C' W' ∧ ((∃ xs, S xs ∧ J C' xs W') ∨ (∃ pre, Sp pre ∧ Jx C' pre W'))
theorem SeqO.later {α : Type} {P : Program} {g : Nat} {lb : Array Value} {encs : α → Array Value} {A : Nat → Prop} {S Sp : List α → Prop} {w w' : World}
    (h : SeqO P g lb encs A S Sp w) (hb : Below w.heap.size w w') : SeqO P g lb encs A S Sp w' := fun l J Jx C W hW hC hw hJ hJx hY h0 =>
  h l J Jx C W (hb.trans (hW.mono hb.size)) (fun k hk => (hC k hk).imp id fun h => Nat.le_trans hb.size h) hw hJ hJx hY h0

theorem room_none {F : Fence} (hd : F.depth = none) (k : Nat) : F.room k := fun d h => by rw [hd] at h; cases h
theorem round_any {F : Fence} (hd : F.depth = none) {m m' : Nat} {P : Program} {l : Nat} {f : FuncId} {tmps : Array Value} {assign body : Code} {w : World} {R : Ending → World → Prop}
    (h : RoundIn F m P l f tmps assign body w R) : RoundIn F m' P l f tmps assign body w R := ⟨h.1, fun c cs _ => h.2 c cs (room_none hd _)⟩

/-- How a round's body is to be left. -/
def postO {α : Type} (C : Nat → Prop) (I : (Nat → Prop) → List α → World → Prop) (Ix : Code → (Nat → Prop) → List α → World → Prop) (xs : List α) (W : World) : Exit → Act → World → Prop
  | .normal, _, W' => ∃ C', Grow C C' W ∧ Only C W W' ∧ Wn C' W' ∧ I C' xs W'
  | .ret, _, W' => ∃ C', Grow C C' W ∧ Only C W W' ∧ Wn C' W' ∧ Ix .ret C' xs W'
  | .exit id, _, W' => ∃ C', Grow C C' W ∧ Only C W W' ∧ Wn C' W' ∧ Ix (.exit id) C' xs W'
  | .goto t, _, W' => ∃ C', Grow C C' W ∧ Only C W W' ∧ Wn C' W' ∧ Ix (.goto t) C' xs W'
  | .panic _, _, _ => False
  | .outgrown, _, _ => False

section
variable {P : Program}
/-- The set without the loop's own two blocks. -/
def offL (C : Nat → Prop) (l : Nat) : Nat → Prop := fun k => C k ∧ k ≠ l ∧ k ≠ l + 1
/-- **The law.** -/
theorem wpIn_rangeO {α : Type} {n : Nat} {g : Operand} {ps : Array Tmp} {assign body : Code} {Q : Exit → Act → World → Prop} {a : Act} {w : World}
    (h1 : 1 ≤ n) {gf : Nat} {lb : Array Value} (hg : a.eval g = .func (.func gf) #[] lb) (eg : ∀ args w, (callFunc gf args).run P w = .ok (.enter gf args) w)
    {encs : α → Array Value} {A : Nat → Prop} {S Sp : List α → Prop} {w0 : World} (hseq : SeqO P gf lb encs A S Sp w0) (hb0 : Below w0.heap.size w0 w) (hps : ∀ x, (encs x).size = ps.size)
    (I : (Nat → Prop) → List α → World → Prop) (Ix : Code → (Nat → Prop) → List α → World → Prop) (hI : Stab I) (hIx : ∀ c, Stab (Ix c)) (C : Nat → Prop) (hC : ∀ k, C k → A k ∨ w0.heap.size ≤ k) (hw : Wn C w) (h0 : I C [] w) (a₁ : α → Act)
    (hassign : ∀ (l : Nat) (x : α) (W : World) (K : Act → World → Prop), K (a₁ x) W →
      assign.wpIn (Fence.wide.inRound l) (n - 1 - 1) P (Exit.then K (fun _ _ _ => False)) { tmps := (ps.zip (encs x)).foldl (fun t (p, v) => t.setIfInBounds p v) a.tmps, defers := [] } W)
    (hbody : ∀ (l : Nat) (C1 : Nat → Prop) (pre : List α) (x : α) (W : World), Sp (pre ++ [x]) → I C1 pre W → Grow C C1 w → Only C w W → Wn C1 W → body.wpIn (Fence.wide.inRound l) (n - 1 - 1) P (postO C1 I Ix (pre ++ [x]) W) (a₁ x) W)
    (hdone : ∀ (D : Nat) (C1 : Nat → Prop) (xs : List α) (W : World), w.heap.size ≤ D → ¬ C1 D → S xs → I C1 xs W → Grow C C1 w → Only C w W → Wn C1 W → W.heap[D]? = some (.deferred (some [])) → Q .normal { a with defers := { target := .collected D, args := #[] } :: a.defers } W)
    (hstop : ∀ (D : Nat) (c : Code) (C1 : Nat → Prop) (pre : List α) (W : World), w.heap.size ≤ D → ¬ C1 D → Sp pre → Ix c C1 pre W → Grow C C1 w → Only C w W → Wn C1 W → W.heap[D]? = some (.deferred (some [])) → c.wpIn Fence.wide n P Q { a with defers := { target := .collected D, args := #[] } :: a.defers } W) :
    (Code.rangeFunc g ps assign body).wpIn Fence.wide n P Q a w := by
  refine wpIn_rangeFunc fun fn hfn => ?_
  obtain ⟨r, hr⟩ : ∃ r : LoopState → Option Code → Loop, r = fun st pe => { state := st, pending := pe, fn, tmps := a.tmps, params := ps, assign, body, defers := w.heap.size } := ⟨_, rfl⟩
  obtain ⟨W1, hW1⟩ : ∃ W1, (w.alloc (.deferred (some []))).alloc (.loop (r .ready none)) = W1 := ⟨_, rfl⟩
  obtain ⟨D, hD⟩ : ∃ D, D = w.heap.size := ⟨_, rfl⟩
  have z1 : W1.heap.size = D + 2 := by rw [← hW1, hD]; simp
  have o1 : Only (fun _ => False) w W1 := by rw [← hW1]; exact ((Only.refl _ w).alloc _).alloc _
  have c1 : W1.heap[D + 1]? = some (.loop (r .ready none)) := by
    rw [← hW1, hD]; have := World.alloc_heap_new (w.alloc (.deferred (some []))) (.loop (r .ready none)); rwa [World.size_alloc] at this
  have c2 : W1.heap[D]? = some (.deferred (some [])) := by
    rw [← hW1, hD]; exact (Below.heap_alloc _ _ _ (by simp)).trans (World.alloc_heap_new w _)
  have i1 : I C [] W1 := hI _ _ _ _ h0 hw (o1.mono fun _ _ h => h.elim)
  have b1 : Below w0.heap.size w0 W1 := hb0.trans (o1.below hb0.size fun _ _ h => h)
  -- what lies in the set is the caller's, or the loop's own two
  obtain ⟨J, hJ⟩ : ∃ J : (Nat → Prop) → List α → World → Prop, J = fun E pre W => E D ∧ E (D + 1) ∧ Grow C (offL E D) w ∧ I (offL E D) pre W ∧ W.heap[D + 1]? = some (.loop (r .ready none)) ∧ W.heap[D]? = some (.deferred (some [])) := ⟨_, rfl⟩
  obtain ⟨Jx, hJx⟩ : ∃ J : (Nat → Prop) → List α → World → Prop, J = fun E pre W => E D ∧ E (D + 1) ∧ Grow C (offL E D) w ∧ ∃ c, Ix c (offL E D) pre W ∧ W.heap[D + 1]? = some (.loop (r .done (some c))) ∧ W.heap[D]? = some (.deferred (some [])) := ⟨_, rfl⟩
  have offW : ∀ {E : Nat → Prop} {W : World}, Wn E W → Wn (offL E D) W := fun h k hk => h k hk.1
  have stab : ∀ (T : (Nat → Prop) → List α → World → Prop), Stab T → ∀ (E : Nat → Prop) s W W', T (offL E D) s W → Wn E W → Only (fun k => ¬ E k) W W' → T (offL E D) s W' := fun T hT E s W W' h hw ho =>
    hT _ _ _ _ h (offW hw) (ho.mono fun k _ hk h => hk h.1)
  have hJs : Stab J := fun E s W W' h hw ho => by
    rw [hJ] at h ⊢
    obtain ⟨e1, e2, e3, e4, e5, e6⟩ := h
    exact ⟨e1, e2, e3, stab I hI _ _ _ _ e4 hw ho, (ho.block _ (hw _ e2) fun h => h e2).trans e5, (ho.block _ (hw _ e1) fun h => h e1).trans e6⟩
  have hJxs : Stab Jx := fun E s W W' h hw ho => by
    rw [hJx] at h ⊢
    obtain ⟨e1, e2, e3, c, e4, e5, e6⟩ := h
    exact ⟨e1, e2, e3, c, stab _ (hIx c) _ _ _ _ e4 hw ho, (ho.block _ (hw _ e2) fun h => h e2).trans e5, (ho.block _ (hw _ e1) fun h => h e1).trans e6⟩
  obtain ⟨E0, hE0⟩ : ∃ E0 : Nat → Prop, E0 = fun k => C k ∨ k = D ∨ k = D + 1 := ⟨_, rfl⟩
  have off0 : offL E0 D = C := by
    funext k
    refine propext ⟨fun ⟨h, h2, h3⟩ => ?_, fun h => ⟨?_, ?_, ?_⟩⟩
    · rw [hE0] at h; exact h.elim id fun h => (h.elim h2 h3).elim
    · rw [hE0]; exact .inl h
    · have := hw k h; omega
    · have := hw k h; omega
  have hE0w : Wn E0 W1 := fun k hk => by
    rw [hE0] at hk
    rcases hk with h | h | h
    · have := hw k h; omega
    · omega
    · omega
  have onlyW : ∀ {W : World}, Only E0 W1 W → Only C w W := fun h => (o1.mono (T := C) fun _ _ h => h.elim).step h fun k hk h => by
    rw [hE0] at h
    rcases h with h | h | h
    · exact h
    · omega
    · omega
  have backS : ∀ {C1 : Nat → Prop} {W : World}, ¬ C1 D → ¬ C1 (D + 1) → offL (fun k => C1 k ∨ k = D ∨ k = D + 1) D = C1 := fun h2 h3 => by
    funext k
    refine propext ⟨fun ⟨h, h4, h5⟩ => h.elim id fun h => (h.elim h4 h5).elim, fun h => ⟨.inl h, ?_, ?_⟩⟩
    · rintro rfl; exact h2 h
    · rintro rfl; exact h3 h
  refine ⟨D + 1, [{ target := .collected D, args := #[] }], W1, { target := .fn (.func gf) lb, args := #[.func (.yield (D + 1)) #[] #[]] }, W1, gf,
    #[.func (.yield (D + 1)) #[] #[]] ++ lb, W1, ?_, ?_, fun _ _ => trivial, ?_, fun _ => h1, ?_⟩
  · rw [← hW1, hr, hD]; exact run_enterLoop_outer _ _ _ _ _
  · simp only [resolve, hg]
    simp [go_sem]
  · simp [invoke, go_sem, eg]
  refine callsIn_wide.2 ((hseq (D + 1) J Jx E0 W1 b1 ?_ hE0w hJs hJxs ?_ ?_).mono ?_)
  · intro k hk
    rw [hE0] at hk
    have := hb0.size
    rcases hk with h | h | h
    · exact hC k h
    · right; omega
    · right; omega
  · intro E pre x W hlen hi _ ho hwE m
    rw [hJ] at hi
    obtain ⟨e1, e2, eg3, hi, hl, hk⟩ := hi
    have hlt : D + 1 < W.heap.size := hwE _ e2
    have hy := run_yield (P := P) (args := encs x) hl (by rw [hr]; exact hps x)
    rw [hr] at hy
    refine ⟨fn, _, assign, body, hy, round_any (m := n - 1 - 1) rfl (roundIn_of_wpIn hfn (hassign _ x W _ ⟨_, run_beginRound hl (by rw [hr]), ?_⟩))⟩
    obtain ⟨W2, hW2⟩ : ∃ W2, W.putObj (D + 1) (.loop { r .ready none with state := .busy }) = W2 := ⟨_, rfl⟩
    have l2 : W2.heap[D + 1]? = some (.loop { r .ready none with state := .busy }) := by rw [← hW2]; exact World.putObj_heap_same hlt
    have k2 : W2.heap[D]? = some (.deferred (some [])) := by rw [← hW2]; exact (World.putObj_heap_other (by omega)).trans hk
    have s2 : W2.heap.size = W.heap.size := by rw [← hW2]; simp
    have o2 : Only (fun k => k = D + 1) W W2 := by rw [← hW2]; exact (Only.refl _ W).putObj _ (.inl rfl)
    have i2 : I (offL E D) pre W2 := hI _ _ _ _ hi (offW hwE) (o2.mono fun k _ h h' => by subst h; exact h'.2.2 rfl)
    have w2 : Wn (offL E D) W2 := (offW hwE).le (by omega)
    have ow : Only C w W2 := (onlyW ho).step o2 fun k hk h => by omega
    rw [hW2]
    refine wpIn_mono (hbody _ _ pre x W2 hlen i2 eg3 ow w2) ?_
    have fin : ∀ (jump : Option Code) (C1 : Nat → Prop) (W3 : World), Grow (offL E D) C1 W2 → Only (offL E D) W2 W3 → Wn C1 W3 → ¬ C1 D ∧ ¬ C1 (D + 1) ∧ W3.heap.size = (W3.putObj (D + 1) (.loop (r (if jump.isNone then .ready else .done) jump))).heap.size ∧
        (Instr.endRound (D + 1) jump).run P W3 = .ok (.bool jump.isNone) (W3.putObj (D + 1) (.loop (r (if jump.isNone then .ready else .done) jump))) ∧
        (W3.putObj (D + 1) (.loop (r (if jump.isNone then .ready else .done) jump))).heap[D + 1]? = some (.loop (r (if jump.isNone then .ready else .done) jump)) ∧
        (W3.putObj (D + 1) (.loop (r (if jump.isNone then .ready else .done) jump))).heap[D]? = some (.deferred (some [])) ∧
        Only (fun k => ¬ C1 k) W3 (W3.putObj (D + 1) (.loop (r (if jump.isNone then .ready else .done) jump))) ∧
        Grow E (fun k => C1 k ∨ k = D ∨ k = D + 1) W ∧ Only E W (W3.putObj (D + 1) (.loop (r (if jump.isNone then .ready else .done) jump))) ∧ Wn (fun k => C1 k ∨ k = D ∨ k = D + 1) (W3.putObj (D + 1) (.loop (r (if jump.isNone then .ready else .done) jump))) ∧ Grow C C1 w := fun jump C1 W3 hg3 ho3 hw3 => by
      have n1 : ¬ C1 D := hg3.not (by omega) fun h => h.2.1 rfl
      have n2 : ¬ C1 (D + 1) := hg3.not (by omega) fun h => h.2.2 rfl
      have l3 : W3.heap[D + 1]? = some (.loop { r .ready none with state := .busy }) := (ho3.block _ (by omega) fun h => h.2.2 rfl).trans l2
      have k3 : W3.heap[D]? = some (.deferred (some [])) := (ho3.block _ (by omega) fun h => h.2.1 rfl).trans k2
      have z3 := ho3.size
      refine ⟨n1, n2, by simp, ?_, World.putObj_heap_same (by omega), (World.putObj_heap_other (by omega)).trans k3, (Only.refl _ W3).putObj _ (.inl n2), ?_, ?_, ?_, ?_⟩
      · have := run_endRound (P := P) jump l3
        rw [hr] at this ⊢
        exact this
      · intro k hk
        rcases hk with h | rfl | rfl
        · exact (hg3 k h).imp (fun h => h.1) fun h => by omega
        · exact .inl e1
        · exact .inl e2
      · refine Only.putObj ?_ _ (.inl e2)
        refine (o2.mono (T := E) fun k _ h => by rw [h]; exact e2).step ho3 fun k _ h => h.1
      · intro k hk
        have hz : (W3.putObj (D + 1) (.loop (r (if jump.isNone then .ready else .done) jump))).heap.size = W3.heap.size := by simp
        rw [hz]
        rcases hk with h | rfl | rfl
        · exact hw3 k h
        · omega
        · omega
      · exact eg3.trans hg3 (by have := (onlyW ho).size; omega)
    rintro e a3 W3 hp
    have bad : ∀ c, (∃ C', Grow (offL E D) C' W2 ∧ Only (offL E D) W2 W3 ∧ Wn C' W3 ∧ Ix c C' (pre ++ [x]) W3) → ∃ v w', (Instr.endRound (D + 1) (some c)).run P W3 = .ok v w' ∧ ∃ C', Grow E C' W ∧ Only E W w' ∧ Wn C' w' ∧ ((Ending.returned v = .returned (.bool true) ∧ J C' (pre ++ [x]) w') ∨ (Ending.returned v = .returned (.bool false) ∧ Jx C' (pre ++ [x]) w')) := by
      rintro c ⟨C', hg3, ho3, hw3, hi3⟩
      obtain ⟨n1, n2, _, hr3, l4, k4, o4, g4, p4, w4, gc⟩ := fin (some c) C' W3 hg3 ho3 hw3
      refine ⟨_, _, hr3, _, g4, p4, w4, .inr ⟨rfl, ?_⟩⟩
      rw [hJx]
      refine ⟨.inr (.inl rfl), .inr (.inr rfl), ?_, c, ?_, l4, k4⟩
      · rw [backS (W := W) n1 n2]; exact gc
      · rw [backS (W := W) n1 n2]; exact hIx c _ _ _ _ hi3 hw3 o4
    cases e with
    | normal =>
      obtain ⟨C', hg3, ho3, hw3, hi3⟩ := hp
      obtain ⟨n1, n2, _, hr3, l4, k4, o4, g4, p4, w4, gc⟩ := fin none C' W3 hg3 ho3 hw3
      refine ⟨_, _, hr3, _, g4, p4, w4, .inl ⟨rfl, ?_⟩⟩
      rw [hJ]
      refine ⟨.inr (.inl rfl), .inr (.inr rfl), ?_, ?_, l4, k4⟩
      · rw [backS (W := W) n1 n2]; exact gc
      · rw [backS (W := W) n1 n2]; exact hI _ _ _ _ hi3 hw3 o4
    | ret => exact bad .ret hp
    | exit id => exact bad (.exit id) hp
    | goto t => exact bad (.goto t) hp
    | panic ch => exact hp.elim
    | outgrown => exact hp.elim
  · rw [hJ]
    refine ⟨by rw [hE0]; exact .inr (.inl rfl), by rw [hE0]; exact .inr (.inr rfl), ?_, ?_, c1, c2⟩
    · rw [off0]; exact Grow.refl _ _
    · rw [off0]; exact i1
  · rintro e W2 ⟨⟨v, rfl⟩, E, hgE, hoE, hwE, ⟨xs, hS, hi⟩ | ⟨pre, hS, hi⟩⟩
    · rw [hJ] at hi
      obtain ⟨e1, e2, e3, hi, hl, hk⟩ := hi
      have nD : ¬ offL E D D := fun h => h.2.1 rfl
      have nL : ¬ offL E D (D + 1) := fun h => h.2.2 rfl
      refine ⟨none, _, by have := run_endLoop (P := P) hl (by rw [hr]; simp); rw [hr] at this; exact this, ?_⟩
      exact hdone D (offL E D) xs _ (by omega) nD hS (hI _ _ _ _ hi (offW hwE) ((Only.refl _ W2).putObj _ (.inl nL))) e3 ((onlyW hoE).putObj _ (.inr (by omega))) (fun k hk => by have := hwE k hk.1; simpa using this) ((World.putObj_heap_other (by omega)).trans hk)
    · rw [hJx] at hi
      obtain ⟨e1, e2, e3, c, hi, hl, hk⟩ := hi
      have nD : ¬ offL E D D := fun h => h.2.1 rfl
      have nL : ¬ offL E D (D + 1) := fun h => h.2.2 rfl
      refine ⟨some c, _, by have := run_endLoop (P := P) hl (by rw [hr]; simp); rw [hr] at this; exact this, ?_⟩
      exact hstop D c (offL E D) pre _ (by omega) nD hS (hIx c _ _ _ _ hi (offW hwE) ((Only.refl _ W2).putObj _ (.inl nL))) e3 ((onlyW hoE).putObj _ (.inr (by omega))) (fun k hk => by have := hwE k hk.1; simpa using this) ((World.putObj_heap_other (by omega)).trans hk)
end
end Go.Proofs.Ytabgedmocdjkcaa
