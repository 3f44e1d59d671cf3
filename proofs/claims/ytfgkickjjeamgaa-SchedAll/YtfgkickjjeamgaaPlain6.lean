/- Layer 6 (package sched): runs of threads, as plain reckoning. Whatever program. -/
namespace Go.Proofs.Ytfgkickjjeamgaa

/-- What runs: how many threads; which of them is finished; what a call of a thread's step does: what comes of it, and whether it was a move. -/
structure Mach (A : Type) where
  n : Nat
  fin : A → Nat → Bool
  go : A → Nat → A × Bool
/-- What a run has come to. -/
structure RS (A : Type) where
  a : A
  moves : List Int
  calls : Nat

/-- How many threads aren't finished. -/
def leftN {A : Type} (m : Mach A) (a : A) : Nat := (List.range m.n).countP (fun t => !m.fin a t)
def RS.over {A : Type} (m : Mach A) (s : RS A) : Bool := decide (leftN m s.a = 0) || decide (65536 ≤ s.moves.length)
/-- Is there no step to be called? -/
def RS.idle {A : Type} (m : Mach A) (s : RS A) (t : Int) : Prop := t < 0 ∨ (m.n : Int) ≤ t ∨ m.fin s.a t.toNat = true
instance {A : Type} (m : Mach A) (s : RS A) (t : Int) : Decidable (s.idle m t) := by unfold RS.idle; infer_instance
def RS.call {A : Type} (m : Mach A) (s : RS A) (t : Int) : RS A :=
  if s.idle m t then s else ⟨(m.go s.a t.toNat).1, if (m.go s.a t.toNat).2 = true then s.moves ++ [t] else s.moves, s.calls + 1⟩
def RS.take {A : Type} (m : Mach A) (s : RS A) (t : Int) : RS A := if s.over m = true then s else s.call m t
def RS.picks {A : Type} (m : Mach A) (s : RS A) (l : List Int) : RS A := l.foldl (RS.take m) s
/-- The first k threads of a round. -/
def RS.upto {A : Type} (m : Mach A) (s : RS A) : Nat → RS A
  | 0 => s
  | k + 1 => (s.upto m k).take m k
def RS.rounds {A : Type} (m : Mach A) : Nat → RS A → RS A
  | 0, s => s
  | j + 1, s => if (s.upto m m.n).moves.length = s.moves.length then s.upto m m.n else RS.rounds m j (s.upto m m.n)
def RS.err {A : Type} (m : Mach A) (s : RS A) : Int := if leftN m s.a = 0 then 0 else 12
/-- All of a run. -/
def RS.run {A : Type} (m : Mach A) (a : A) (l : List Int) : RS A := RS.rounds m 65537 (RS.picks m ⟨a, [], 0⟩ l)

section
variable {A : Type} {m : Mach A}
theorem countP_one {p q : Nat → Bool} {t : Nat} (n : Nat) (h : ∀ u, u < n → u ≠ t → q u = p u) (ht : t < n) (hp : p t = true) :
    (List.range n).countP p = (List.range n).countP q + (if q t = true then 0 else 1) := by
  induction n with
  | zero => omega
  | succ k ih =>
    rw [List.range_succ, List.countP_append, List.countP_append, List.countP_singleton, List.countP_singleton]
    by_cases e : t = k
    · subst e
      have : (List.range t).countP p = (List.range t).countP q := List.countP_congr fun u hu => by
        have hu' : u < t := List.mem_range.1 hu
        rw [h u (by omega) (by omega)]
      rw [this, hp]
      cases q t <;> simp
    · have := ih (fun u hu => h u (by omega)) (by omega)
      rw [this, h k (by omega) (fun e' => e e'.symm)]
      omega
theorem leftN_le (a : A) : leftN m a ≤ m.n := by
  have := List.countP_le_length (p := fun t => !m.fin a t) (l := List.range m.n)
  simpa [leftN] using this
/-- One thread has turned. -/
theorem leftN_turn {a a' : A} {t : Nat} (ht : t < m.n) (h0 : m.fin a t = false) (h : ∀ u, u < m.n → u ≠ t → m.fin a' u = m.fin a u) : leftN m a = leftN m a' + (if m.fin a' t = true then 1 else 0) := by
  have := countP_one (p := fun t => !m.fin a t) (q := fun t => !m.fin a' t) (t := t) m.n (fun u hu hne => by rw [h u hu hne]) ht (by simp [h0])
  unfold leftN
  rw [this]
  cases m.fin a' t <;> simp
theorem leftN_pos {a : A} {t : Nat} (ht : t < m.n) (h0 : m.fin a t = false) : 0 < leftN m a := by
  unfold leftN
  rw [List.countP_pos_iff]
  exact ⟨t, List.mem_range.2 ht, by simp [h0]⟩
theorem RS.call_idle {s : RS A} {t : Int} (h : s.idle m t) : s.call m t = s := by unfold RS.call; rw [if_pos h]
theorem RS.call_go {s : RS A} {t : Int} (h : ¬ s.idle m t) : s.call m t = ⟨(m.go s.a t.toNat).1, if (m.go s.a t.toNat).2 = true then s.moves ++ [t] else s.moves, s.calls + 1⟩ := by unfold RS.call; rw [if_neg h]
theorem RS.call_calls (s : RS A) (t : Int) : s.calls ≤ (s.call m t).calls ∧ (s.call m t).calls ≤ s.calls + 1 := by
  unfold RS.call; split <;> simp
theorem RS.call_moves (s : RS A) (t : Int) : s.moves.length ≤ (s.call m t).moves.length ∧ (s.call m t).moves.length ≤ s.moves.length + 1 := by
  unfold RS.call; split
  · simp
  · simp only; split <;> simp
theorem RS.take_calls (s : RS A) (t : Int) : s.calls ≤ (s.take m t).calls ∧ (s.take m t).calls ≤ s.calls + 1 := by
  unfold RS.take; split
  · simp
  · exact s.call_calls t
theorem RS.take_moves (s : RS A) (t : Int) : s.moves.length ≤ (s.take m t).moves.length ∧ (s.take m t).moves.length ≤ s.moves.length + 1 := by
  unfold RS.take; split
  · simp
  · exact s.call_moves t
theorem RS.over_moves {s : RS A} (h : ¬ s.over m = true) : s.moves.length < 65536 ∧ 0 < leftN m s.a := by
  simp [RS.over] at h
  omega
theorem RS.take_most {s : RS A} (t : Int) (h : s.moves.length ≤ 65536) : (s.take m t).moves.length ≤ 65536 := by
  unfold RS.take; split
  · exact h
  · rename_i ho
    have := (RS.over_moves ho).1
    have := (s.call_moves (m := m) t).2
    omega
theorem RS.take_over {s : RS A} (t : Int) (h : s.over m = true) : s.take m t = s := by unfold RS.take; rw [if_pos h]
theorem RS.take_go {s : RS A} (t : Int) (h : s.over m = false) : s.take m t = s.call m t := by unfold RS.take; rw [if_neg (by simp [h])]
theorem RS.picks_over {s : RS A} (h : s.over m = true) : ∀ l, s.picks m l = s
  | [] => rfl
  | t :: l => by
    show RS.picks m (s.take m t) l = s
    rw [RS.take_over t h]
    exact RS.picks_over h l
theorem RS.upto_over {s : RS A} {i : Nat} (h : (s.upto m i).over m = true) : ∀ k, s.upto m (i + k) = s.upto m i
  | 0 => rfl
  | k + 1 => by
    show (s.upto m (i + k)).take m _ = _
    rw [RS.upto_over h k, RS.take_over _ h]
theorem RS.upto_over' {s : RS A} {i n : Nat} (h : (s.upto m i).over m = true) (hn : i ≤ n) : s.upto m n = s.upto m i := by
  have := RS.upto_over h (n - i)
  rwa [show i + (n - i) = n by omega] at this
theorem RS.upto_calls (s : RS A) (k : Nat) : s.calls ≤ (s.upto m k).calls ∧ (s.upto m k).calls ≤ s.calls + k := by
  induction k with
  | zero => exact ⟨Nat.le_refl _, Nat.le_refl _⟩
  | succ k ih =>
    have := (s.upto m k).take_calls (m := m) (k : Int)
    show s.calls ≤ ((s.upto m k).take m k).calls ∧ ((s.upto m k).take m k).calls ≤ _
    omega
theorem RS.upto_moves (s : RS A) (k : Nat) : s.moves.length ≤ (s.upto m k).moves.length := by
  induction k with
  | zero => exact Nat.le_refl _
  | succ k ih =>
    have := (s.upto m k).take_moves (m := m) (k : Int)
    show _ ≤ ((s.upto m k).take m k).moves.length
    omega
theorem RS.upto_most {s : RS A} (h : s.moves.length ≤ 65536) (k : Nat) : (s.upto m k).moves.length ≤ 65536 := by
  induction k with
  | zero => exact h
  | succ k ih => exact RS.take_most _ ih
theorem RS.picks_calls (l : List Int) : ∀ s : RS A, s.calls ≤ (s.picks m l).calls ∧ (s.picks m l).calls ≤ s.calls + l.length := by
  induction l with
  | nil => exact fun s => ⟨Nat.le_refl _, Nat.le_refl _⟩
  | cons t l ih =>
    intro s
    have h1 := ih (s.take m t)
    have h2 := s.take_calls (m := m) t
    show s.calls ≤ (RS.picks m (s.take m t) l).calls ∧ (RS.picks m (s.take m t) l).calls ≤ _
    simp only [List.length_cons]
    omega
theorem RS.picks_most (l : List Int) : ∀ s : RS A, s.moves.length ≤ 65536 → (s.picks m l).moves.length ≤ 65536 := by
  induction l with
  | nil => exact fun s h => h
  | cons t l ih => exact fun s h => ih _ (RS.take_most t h)
theorem RS.picks_snoc (s : RS A) (l : List Int) (t : Int) : s.picks m (l ++ [t]) = (s.picks m l).take m t := by simp [RS.picks]
theorem RS.picks_take (s : RS A) {l : List Int} {k : Nat} (hk : k < l.length) : s.picks m (l.take (k + 1)) = (s.picks m (l.take k)).take m (l.getD k 0) := by
  rw [List.take_succ_eq_append_getElem hk, RS.picks_snoc]
  simp [List.getD, List.getElem?_eq_getElem hk]
/-- A round without a move is the last one. -/
theorem RS.rounds_last {s : RS A} (j : Nat) (h : (s.upto m m.n).moves.length = s.moves.length) : RS.rounds m (j + 1) s = s.upto m m.n := by
  show (if _ then _ else _) = _
  rw [if_pos h]
theorem RS.rounds_next {s : RS A} (j : Nat) (h : (s.upto m m.n).moves.length ≠ s.moves.length) : RS.rounds m (j + 1) s = RS.rounds m j (s.upto m m.n) := by
  show (if _ then _ else _) = _
  rw [if_neg h]
theorem RS.rounds_over {s : RS A} (h : s.over m = true) : ∀ j, RS.rounds m j s = s
  | 0 => rfl
  | j + 1 => by
    have e : s.upto m m.n = s := RS.upto_over' (i := 0) h (Nat.zero_le _)
    rw [RS.rounds_last j (by rw [e]), e]
/-- A round in which it is over is the last one. -/
theorem RS.rounds_mid {s : RS A} {i : Nat} (hi : i ≤ m.n) (h : (s.upto m i).over m = true) (j : Nat) : RS.rounds m (j + 1) s = s.upto m i := by
  have e : s.upto m m.n = s.upto m i := RS.upto_over' h hi
  by_cases c : (s.upto m m.n).moves.length = s.moves.length
  · rw [RS.rounds_last j c, e]
  · rw [RS.rounds_next j c, e, RS.rounds_over h]
end

end Go.Proofs.Ytfgkickjjeamgaa
