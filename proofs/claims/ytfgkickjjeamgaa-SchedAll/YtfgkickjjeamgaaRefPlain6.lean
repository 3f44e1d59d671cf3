/- Layer 6: runs of threads of instructions, as plain reckoning. -/
import Derived.Test.YtfgkickjjeamgaaChains6
import Derived.Test.YtfgkickjjeamgaaBegin6
namespace Go.Proofs.Ytfgkickjjeamgaa
open Go.RowKit

abbrev ISt := WS × List (List Ins)
abbrev insM (n : Nat) : Mach ISt := chainM n insAct
/-- What is left of the threads. -/
def remOf (T : List (List (Int × Int))) (at_ : List Nat) : List (List Ins) := T.mapIdx fun t l => (deedsOf t l).drop (at_.getD t 0)
def sumLen (r : List (List Ins)) : Nat := (r.map List.length).sum
theorem sumLen_set {r : List (List Ins)} : ∀ {t : Nat} {d : Ins} {ds : List Ins}, r[t]? = some (d :: ds) → sumLen (r.set t ds) + 1 = sumLen r := by
  induction r with
  | nil => intro t d ds h; simp at h
  | cons x r ih =>
    intro t d ds h
    cases t with
    | zero =>
      simp at h
      subst h
      simp [sumLen]; omega
    | succ t =>
      have := ih (t := t) (by simpa using h)
      simp [sumLen] at this ⊢
      omega
theorem act_done (s : WS) (d : Ins) : ((insAct s d).1.done.length = s.done.length + (if (insAct s d).2 = true then 1 else 0)) := by
  unfold insAct WS.act
  have hp : ∀ s1, s.pre d.t d.kind d.x = some s1 → s1.done.length = s.done.length := fun s1 h => by
    have hsl : ∀ k v, (s.setLock k v).done = s.done := fun k v => by unfold WS.setLock; split <;> (try split) <;> (try split) <;> rfl
    unfold WS.pre at h
    split at h
    · cases h; rfl
    · split at h
      · split at h
        · cases h
        · cases h; rfl
      · split at h
        · split at h
          · cases h
          · cases h; rw [hsl]
        · split at h
          · split at h
            · cases h; rw [hsl]
            · cases h; rfl
          · cases h; rfl
  cases h : s.pre d.t d.kind d.x with
  | none => simp
  | some s1 => simp [WS.push, hp s1 h]

/-- Of so many instructions no more is done. -/
structure Bnd (n : Nat) (s : RS ISt) : Prop where
  sum : s.moves.length + sumLen s.a.2 ≤ 1000
  done : s.a.1.done.length = s.moves.length
  len : s.a.2.length = n
theorem insM_fin_cons {n : Nat} {s : ISt} {t : Nat} (h : (insM n).fin s t = false) : ∃ d ds, s.2[t]? = some (d :: ds) := by
  simp only [chainM] at h
  split at h
  · rename_i d ds e; exact ⟨d, ds, e⟩
  · cases h
theorem insM_go {n : Nat} {s : ISt} {t : Nat} {d : Ins} {ds : List Ins} (h : s.2[t]? = some (d :: ds)) : (insM n).go s t = (((insAct s.1 d).1, if (insAct s.1 d).2 = true then s.2.set t ds else s.2), (insAct s.1 d).2) := by
  simp [chainM, h]
theorem insM_fin_of {n : Nat} {s : ISt} {t : Nat} {d : Ins} {ds : List Ins} (h : s.2[t]? = some (d :: ds)) : (insM n).fin s t = false := by
  simp [chainM, h]
theorem Bnd.call {n : Nat} {s : RS ISt} (h : Bnd n s) (t : Int) : Bnd n (s.call (insM n) t) := by
  by_cases hi : s.idle (insM n) t
  · rw [RS.call_idle hi]; exact h
  · rw [RS.call_go hi]
    unfold RS.idle at hi
    obtain ⟨d, ds, e⟩ := insM_fin_cons (n := n) (s := s.a) (t := t.toNat) (by
      cases hf : (insM n).fin s.a t.toNat
      · rfl
      · exact absurd (.inr (.inr hf)) hi)
    rw [insM_go e]
    have hd := act_done s.a.1 d
    have h1 := h.sum
    have h2 := h.done
    have h3 := h.len
    cases hb : (insAct s.a.1 d).2
    · rw [hb] at hd
      simp only [Bool.false_eq_true, if_false] at hd ⊢
      exact ⟨h1, by simpa using hd.trans (by omega), h3⟩
    · rw [hb] at hd
      simp only [if_true] at hd ⊢
      have := sumLen_set e
      exact ⟨by simp; omega, by simp; omega, by simpa using h3⟩
theorem left_zero {A : Type} {m : Mach A} {a : A} (h : leftN m a = 0) {t : Nat} (ht : t < m.n) : m.fin a t = true := by
  cases hf : m.fin a t
  · have := leftN_pos ht hf; omega
  · rfl
/-- As long as there are few moves, what is picked is called. -/
theorem take_call {A : Type} {m : Mach A} {s : RS A} (h : s.moves.length < 65536) (t : Int) : s.take m t = s.call m t := by
  rcases ho : s.over m with _ | _
  · exact RS.take_go t ho
  · rw [RS.take_over t ho]
    have hz : leftN m s.a = 0 := by
      simp [RS.over] at ho
      omega
    refine (RS.call_idle ?_).symm
    by_cases h0 : t < 0
    · exact .inl h0
    · by_cases h1 : (m.n : Int) ≤ t
      · exact .inr (.inl h1)
      · exact .inr (.inr (left_zero hz (by omega)))
theorem Bnd.take {n : Nat} {s : RS ISt} (h : Bnd n s) (t : Int) : Bnd n (s.take (insM n) t) := by
  rw [take_call (by have := h.sum; omega)]
  exact h.call t
theorem Bnd.picks {n : Nat} (l : List Int) : ∀ {s : RS ISt}, Bnd n s → Bnd n (s.picks (insM n) l) := by
  induction l with
  | nil => exact fun h => h
  | cons t l ih => exact fun h => ih (h.take t)
theorem Bnd.upto {n : Nat} {s : RS ISt} (h : Bnd n s) (k : Nat) : Bnd n (s.upto (insM n) k) := by
  induction k with
  | zero => exact h
  | succ k ih => exact ih.take _
/-- What a call turns of the threads. -/
theorem call_rem {n : Nat} {s : RS ISt} {t : Int} {u : Nat} (hu : (u : Int) ≠ t) : (s.call (insM n) t).a.2[u]? = s.a.2[u]? := by
  by_cases hi : s.idle (insM n) t
  · rw [RS.call_idle hi]
  · rw [RS.call_go hi]
    unfold RS.idle at hi
    obtain ⟨d, ds, e⟩ := insM_fin_cons (n := n) (s := s.a) (t := t.toNat) (by
      cases hf : (insM n).fin s.a t.toNat
      · rfl
      · exact absurd (.inr (.inr hf)) hi)
    rw [insM_go e]
    simp only
    split
    · rw [List.getElem?_set_ne (by omega)]
    · rfl
theorem upto_rem {n : Nat} {s : RS ISt} (h : Bnd n s) (k : Nat) : ∀ u, k ≤ u → (s.upto (insM n) k).a.2[u]? = s.a.2[u]? := by
  induction k with
  | zero => exact fun u _ => rfl
  | succ k ih =>
    intro u hu
    show ((s.upto (insM n) k).take (insM n) k).a.2[u]? = _
    rw [take_call (by have := (h.upto k).sum; omega), call_rem (by omega)]
    exact ih u (by omega)
theorem fin_congr {n : Nat} {a b : ISt} {t : Nat} (h : a.2[t]? = b.2[t]?) : (insM n).fin a t = (insM n).fin b t := by simp [chainM, h]
/-- Without a move nothing of the threads has turned. -/
theorem call_still {n : Nat} {s : RS ISt} {t : Int} (h : (s.call (insM n) t).moves.length = s.moves.length) : (s.call (insM n) t).a.2 = s.a.2 := by
  by_cases hi : s.idle (insM n) t
  · rw [RS.call_idle hi]
  · rw [RS.call_go hi] at h ⊢
    unfold RS.idle at hi
    obtain ⟨d, ds, e⟩ := insM_fin_cons (n := n) (s := s.a) (t := t.toNat) (by
      cases hf : (insM n).fin s.a t.toNat
      · rfl
      · exact absurd (.inr (.inr hf)) hi)
    rw [insM_go e] at h ⊢
    cases hb : (insAct s.a.1 d).2
    · simp
    · rw [hb] at h; simp at h
theorem upto_still {n : Nat} {s : RS ISt} (hb : Bnd n s) (k : Nat) : (s.upto (insM n) k).moves.length = s.moves.length → (s.upto (insM n) k).a.2 = s.a.2 := by
  induction k with
  | zero => exact fun _ => rfl
  | succ k ih =>
    intro h
    have e : s.upto (insM n) (k + 1) = (s.upto (insM n) k).call (insM n) k := take_call (by have := (hb.upto k).sum; omega) _
    rw [e] at h ⊢
    have h1 := s.upto_moves (m := insM n) k
    have h2 := ((s.upto (insM n) k).call_moves (m := insM n) (k : Int)).1
    rw [call_still (by omega)]
    exact ih (by omega)
theorem leftN_congr {n : Nat} {a b : ISt} (h : a.2 = b.2) : leftN (insM n) a = leftN (insM n) b := by
  unfold leftN
  exact List.countP_congr fun t _ => by rw [fin_congr (n := n) (a := a) (b := b) (by rw [h])]

end Go.Proofs.Ytfgkickjjeamgaa
