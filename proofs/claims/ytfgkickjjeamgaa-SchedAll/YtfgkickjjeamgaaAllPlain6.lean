/- Layer 6: threads without waits and locks, as plain reckoning: all is finished. -/
import Derived.Test.YtfgkickjjeamgaaRunsW6
namespace Go.Proofs.Ytfgkickjjeamgaa
open Go.RowKit

def freeT (T : List (List (Int × Int))) : List (List (Int × Int)) := T.map fun l => l.map fun p => (0, p.2)
/-- What is left in the beginning: two finished threads behind the others. -/
abbrev remF (T : List (List (Int × Int))) : List (List Ins) := rem0 (freeT T) ++ [[], []]
theorem free_act (s : WS) (d : Ins) (h : d.kind = 0) : (insAct s d).2 = true := by simp [insAct, WS.act, WS.pre, h]

structure FreeJ (R : List (List Ins)) (n : Nat) (s : RS ISt) : Prop where
  kinds : ∀ ds ∈ s.a.2, ∀ d ∈ ds, d.kind = 0
  calls : s.calls = s.moves.length
  count : ∀ t : Nat, s.moves.count (t : Int) + (s.a.2.getD t []).length = (R.getD t []).length
  inr : ∀ m ∈ s.moves, 0 ≤ m
  sum : s.moves.length + sumLen s.a.2 = sumLen R
  bnd : Bnd n s
theorem FreeJ.call {R : List (List Ins)} {n : Nat} {s : RS ISt} (h : FreeJ R n s) (t : Int) : FreeJ R n (s.call (insM n) t) := by
  have hb := h.bnd.call t
  by_cases hi : s.idle (insM n) t
  · rw [RS.call_idle hi]; exact h
  · rw [RS.call_go hi] at hb ⊢
    unfold RS.idle at hi
    obtain ⟨d, ds, e⟩ := insM_fin_cons (n := n) (s := s.a) (t := t.toNat) (by
      cases hf : (insM n).fin s.a t.toNat
      · rfl
      · exact absurd (.inr (.inr hf)) hi)
    have ht0 : 0 ≤ t := by omega
    have hk : d.kind = 0 := h.kinds _ (List.mem_of_getElem? e) d (by simp)
    rw [insM_go e] at hb ⊢
    have ha := free_act s.a.1 d hk
    rw [ha] at hb ⊢
    simp only [if_true] at hb ⊢
    have h1 := sumLen_set e
    have h2 := h.sum
    have hlt : t.toNat < s.a.2.length := (List.getElem?_eq_some_iff.1 e).1
    refine ⟨fun es hes d' hd' => ?_, by have := h.calls; simp [this], fun u => ?_, fun m hm => ?_, by simp only [List.length_append, List.length_singleton]; omega, hb⟩
    · rcases List.mem_or_eq_of_mem_set hes with h3 | rfl
      · exact h.kinds es h3 d' hd'
      · exact h.kinds _ (List.mem_of_getElem? e) d' (by simp [hd'])
    · have hc := h.count u
      rw [List.count_append]
      by_cases hu : t.toNat = u
      · subst hu
        have e1 : ((t.toNat : Nat) : Int) = t := by omega
        have e2 : (s.a.2.getD t.toNat []).length = ds.length + 1 := by simp [List.getD, e]
        have e3 : ((s.a.2.set t.toNat ds).getD t.toNat []).length = ds.length := by simp [List.getD, List.getElem?_set_self hlt]
        rw [e3]
        rw [e2] at hc
        rw [e1] at hc ⊢
        rw [List.count_singleton_self]
        omega
      · have e3 : (s.a.2.set t.toNat ds).getD u [] = s.a.2.getD u [] := by simp [List.getD, List.getElem?_set_ne hu]
        rw [e3]
        have e4 : List.count ((u : Nat) : Int) [t] = 0 := by
          rw [List.count_eq_zero]
          simp
          omega
        rw [e4]
        omega
    · rcases List.mem_append.1 hm with hm | hm
      · exact h.inr m hm
      · simp at hm; omega
theorem FreeJ.take {R : List (List Ins)} {n : Nat} {s : RS ISt} (h : FreeJ R n s) (t : Int) : FreeJ R n (s.take (insM n) t) := by
  rw [take_call (by have := h.bnd.sum; omega)]
  exact h.call t
theorem FreeJ.picks {R : List (List Ins)} {n : Nat} (l : List Int) : ∀ {s : RS ISt}, FreeJ R n s → FreeJ R n (s.picks (insM n) l) := by
  induction l with
  | nil => exact fun h => h
  | cons t l ih => exact fun h => ih (h.take t)
theorem FreeJ.upto {R : List (List Ins)} {n : Nat} {s : RS ISt} (h : FreeJ R n s) (k : Nat) : FreeJ R n (s.upto (insM n) k) := by
  induction k with
  | zero => exact h
  | succ k ih => exact ih.take _
/-- A round without a move: all are finished. -/
theorem FreeJ.still {R : List (List Ins)} {n : Nat} {s : RS ISt} (h : FreeJ R n s) (k : Nat) (hk : k ≤ n) : (s.upto (insM n) k).moves.length = s.moves.length → ∀ t, t < k → (insM n).fin s.a t = true := by
  induction k with
  | zero => exact fun _ t ht => by omega
  | succ k ih =>
    intro he t ht
    have e : s.upto (insM n) (k + 1) = (s.upto (insM n) k).call (insM n) k := take_call (by have := (h.upto k).bnd.sum; omega) _
    rw [e] at he
    have h1 := s.upto_moves (m := insM n) k
    have h2 := ((s.upto (insM n) k).call_moves (m := insM n) (k : Int)).1
    by_cases htk : t < k
    · exact ih (by omega) (by omega) t htk
    · obtain rfl : t = k := by omega
      have hu := upto_rem h.bnd t t (Nat.le_refl _)
      rw [← fin_congr (n := n) hu]
      cases hf : (insM n).fin (s.upto (insM n) t).a t
      · exfalso
        have hi : ¬ (s.upto (insM n) t).idle (insM n) t := by
          unfold RS.idle
          simp only [Int.toNat_natCast, hf]
          rintro (h | h | h)
          · omega
          · have : (n : Int) ≤ t := h; omega
          · cases h
        obtain ⟨d, ds, e2⟩ := insM_fin_cons (n := n) hf
        have hk2 : d.kind = 0 := (h.upto t).kinds _ (List.mem_of_getElem? e2) d (by simp)
        rw [RS.call_go hi, Int.toNat_natCast, insM_go e2, free_act _ _ hk2] at he
        simp at he
        omega
      · rfl
theorem left_none {A : Type} {m : Mach A} {a : A} (h : ∀ t, t < m.n → m.fin a t = true) : leftN m a = 0 := by
  unfold leftN
  rw [List.countP_eq_zero]
  intro t ht
  simp [h t (List.mem_range.1 ht)]
theorem FreeJ.rounds {R : List (List Ins)} {n : Nat} : ∀ (j : Nat) {s : RS ISt}, FreeJ R n s → sumLen s.a.2 < j → FreeJ R n (RS.rounds (insM n) j s) ∧ leftN (insM n) (RS.rounds (insM n) j s).a = 0
  | 0, _, _, hj => by omega
  | j + 1, s, h, hj => by
    have hu := h.upto n
    by_cases hc : (s.upto (insM n) n).moves.length = s.moves.length
    · rw [RS.rounds_last j hc]
      refine ⟨hu, left_none fun t ht => ?_⟩
      have h1 := upto_still h.bnd n hc
      rw [show (insM n).fin (s.upto (insM n) (insM n).n).a t = (insM n).fin s.a t from fin_congr (n := n) (by show (s.upto (insM n) n).a.2[t]? = _; rw [h1])]
      exact h.still n (Nat.le_refl _) hc t ht
    · rw [RS.rounds_next j hc]
      refine FreeJ.rounds j hu ?_
      have h1 := hu.sum
      have h2 := h.sum
      have h3 := s.upto_moves (m := insM n) n
      show sumLen (s.upto (insM n) n).a.2 < j
      omega
theorem sumLen_app (a b : List (List Ins)) : sumLen (a ++ b) = sumLen a + sumLen b := by simp [sumLen]
theorem sumLen_zero {r : List (List Ins)} (h : ∀ ds ∈ r, ds = []) : sumLen r = 0 := by
  induction r with
  | nil => rfl
  | cons x r ih =>
    have h1 := h x (by simp)
    have h2 := ih (fun ds hds => h ds (by simp [hds]))
    subst h1
    simpa [sumLen] using h2
theorem freeT_len (T : List (List (Int × Int))) : (freeT T).length = T.length := by simp [freeT]
theorem freeT_at {T : List (List (Int × Int))} {t : Nat} {l : List (Int × Int)} (h : T[t]? = some l) : (freeT T)[t]? = some (l.map fun p => (0, p.2)) := by simp [freeT, h]
theorem remF_at {T : List (List (Int × Int))} {t : Nat} {l : List (Int × Int)} (h : T[t]? = some l) : (remF T)[t]? = some (deedsOf t (l.map fun p => (0, p.2))) := by
  have hlt := (List.getElem?_eq_some_iff.1 h).1
  rw [List.getElem?_append_left (by rw [remOf_len, freeT_len]; exact hlt)]
  exact rem_zero_at (freeT_at h)
theorem remF_late {T : List (List (Int × Int))} {t : Nat} (h : T.length ≤ t) : (remF T).getD t [] = [] := by
  simp only [List.getD]
  rw [List.getElem?_append_right (by rw [remOf_len, freeT_len]; exact h), remOf_len, freeT_len]
  match t - T.length with
  | 0 => rfl
  | 1 => rfl
  | k + 2 => rfl
theorem remF_mem {T : List (List (Int × Int))} {ds : List Ins} (h : ds ∈ remF T) : ds = [] ∨ ∃ (t : Nat) (l : List (Int × Int)), T[t]? = some l ∧ ds = deedsOf t (l.map fun p => (0, p.2)) := by
  obtain ⟨t, ht, rfl⟩ := List.mem_iff_getElem.1 h
  by_cases hlt : t < T.length
  · have h1 := remF_at (List.getElem?_eq_getElem hlt)
    rw [List.getElem?_eq_getElem ht] at h1
    exact .inr ⟨t, T[t], List.getElem?_eq_getElem hlt, Option.some.inj h1⟩
  · have h1 := remF_late (T := T) (t := t) (by omega)
    rw [List.getD, List.getElem?_eq_getElem ht] at h1
    exact .inl h1
theorem sumLen_map (T : List (List (Int × Int))) (f : Nat → List (Int × Int) → List Ins) (hf : ∀ t l, (f t l).length = l.length) : sumLen (T.mapIdx f) = (T.map List.length).sum := by
  induction T generalizing f with
  | nil => rfl
  | cons x T ih =>
    have := ih (fun t => f (t + 1)) (fun t l => hf _ _)
    simp only [List.mapIdx_cons, sumLen, List.map_cons, List.sum_cons, hf] at this ⊢
    omega
theorem remF_sum (T : List (List (Int × Int))) : sumLen (remF T) = (T.map List.length).sum := by
  rw [sumLen_app]
  have h1 : sumLen (rem0 (freeT T)) = ((freeT T).map List.length).sum := by
    refine sumLen_map (freeT T) _ fun t l => ?_
    have e : (List.replicate (freeT T).length 0).getD t 0 = 0 := by
      simp only [List.getD]
      by_cases h : t < (freeT T).length
      · rw [List.getElem?_replicate_of_lt h]; rfl
      · rw [List.getElem?_eq_none (by simp; omega)]; rfl
    rw [e]
    simp [deedsOf_len]
  rw [h1]
  simp [sumLen, freeT, Function.comp_def]
theorem sum_len_le {T : List (List (Int × Int))} (hl : ∀ l ∈ T, l.length ≤ 60) : (T.map List.length).sum ≤ T.length * 60 := by
  induction T with
  | nil => simp
  | cons x T ih =>
    have h1 := ih (fun l h => hl l (by simp [h]))
    have h2 := hl x (by simp)
    simp only [List.map_cons, List.sum_cons, List.length_cons]
    omega

/-- All of it. -/
theorem free_run {T : List (List (Int × Int))} (hn : T.length ≤ 8) (hl : ∀ l ∈ T, l.length ≤ 60) (L : List Int) (F : RS ISt) (hF : F = RS.run (insM (T.length + 2)) (zeroW, remF T) L) :
    F.err (insM (T.length + 2)) = 0 ∧ F.moves.length = (T.map List.length).sum ∧ F.calls = (T.map List.length).sum ∧ (∀ m ∈ F.moves, ∃ t : Nat, m = t ∧ t < T.length) ∧ ∀ (t : Nat) l, T[t]? = some l → F.moves.count (t : Int) = l.length := by
  have hs := remF_sum T
  have hs2 := sum_len_le hl
  have h0 : FreeJ (remF T) (T.length + 2) ⟨(zeroW, remF T), [], 0⟩ := by
    refine ⟨fun ds hds d hd => ?_, rfl, fun t => by simp, fun m hm => by simp at hm, by simp, ⟨?_, rfl, ?_⟩⟩
    · rcases remF_mem hds with rfl | ⟨t, l, _, rfl⟩
      · simp at hd
      · obtain ⟨i, hi⟩ := List.mem_iff_getElem?.1 hd
        obtain ⟨p, hp, rfl⟩ := deedsOf_at hi
        simp only [List.getElem?_map, Option.map_eq_some_iff] at hp
        obtain ⟨q, _, rfl⟩ := hp
        rfl
    · show 0 + sumLen (remF T) ≤ 1000
      omega
    · show (remF T).length = _
      simp [remOf_len, freeT_len]
  obtain ⟨h1, h2⟩ := FreeJ.rounds 65537 (h0.picks L) (by have := (h0.picks L).sum; omega)
  change FreeJ _ _ (RS.run (insM (T.length + 2)) (zeroW, remF T) L) at h1
  change leftN _ (RS.run (insM (T.length + 2)) (zeroW, remF T) L).a = 0 at h2
  rw [← hF] at h1 h2
  have hz : ∀ t : Nat, F.a.2.getD t [] = [] := fun t => by
    by_cases ht : t < T.length + 2
    · have h3 := left_zero h2 (t := t) ht
      simp only [chainM] at h3
      simp only [List.getD]
      cases hx : F.a.2[t]? with
      | none => rfl
      | some ds =>
        cases ds with
        | nil => rfl
        | cons d ds => rw [hx] at h3; simp at h3
    · have := h1.bnd.len
      simp [List.getD, List.getElem?_eq_none (show F.a.2.length ≤ t by omega)]
  have hs3 : sumLen F.a.2 = 0 := sumLen_zero fun ds hds => by
    obtain ⟨t, ht⟩ := List.mem_iff_getElem?.1 hds
    have := hz t
    simpa [List.getD, ht] using this
  have hm : F.moves.length = (T.map List.length).sum := by have := h1.sum; omega
  have hcount : ∀ t : Nat, F.moves.count (t : Int) = ((remF T).getD t []).length := fun t => by
    have := h1.count t
    rw [hz t] at this
    simpa using this
  refine ⟨by unfold RS.err; rw [if_pos h2], hm, by rw [h1.calls, hm], fun m hmm => ?_, fun t l ht => ?_⟩
  · have h3 := h1.inr m hmm
    refine ⟨m.toNat, by omega, ?_⟩
    apply Classical.byContradiction
    intro hlt
    have h4 := hcount m.toNat
    rw [remF_late (by omega)] at h4
    have : ((m.toNat : Nat) : Int) = m := by omega
    rw [this] at h4
    have h5 := List.count_pos_iff.2 hmm
    simp at h4
    omega
  · rw [hcount t]
    simp [List.getD, remF_at ht, deedsOf_len]

end Go.Proofs.Ytfgkickjjeamgaa
