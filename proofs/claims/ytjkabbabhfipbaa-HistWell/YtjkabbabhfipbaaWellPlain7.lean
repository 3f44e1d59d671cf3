/- Layer 7: what a log takes down of threads that end each call ahead of their next one, as plain reckoning. -/
import Derived.Test.YtjkabbabhfipbaaRightPlain7
import Derived.Test.YtjkabbabhfipbaaPlays7
namespace Go.Proofs.Ytjkabbabhfipbaa
open Go.RowKit

/-- A log on its way: its moments are apart, each thread's calls come one behind the other. -/
structure WPair (d c : CallZ) : Prop where
  rise : d.fr < c.fr
  apart : d.to ≠ 0 → d.to ≠ c.to ∧ d.to ≠ c.fr
  turn : d.th = c.th → d.to ≠ 0 ∧ d.to < c.fr
structure WOne (L : List CallZ) (now : Nat) (j : Nat) (c : CallZ) : Prop where
  pos : 1 ≤ c.fr ∧ c.fr ≤ (now : Int)
  end_ : c.to = 0 ∨ (c.fr < c.to ∧ c.to ≤ (now : Int))
  place : c.pl = ((cntZ (L.take j) c.th : Nat) : Int)
  thr : 0 ≤ c.th ∧ c.th < 4
  pairs : ∀ i d, i < j → L[i]? = some d → WPair d c
def WI (L : List CallZ) (now : Nat) : Prop := ∀ j c, L[j]? = some c → WOne L now j c
theorem WI.start : WI [] 0 := fun j c h => by simp at h
theorem WI.begin_ {L : List CallZ} {now : Nat} (h : WI L now) (th : Int) (hth : 0 ≤ th ∧ th < 4) (o : OpZ) (hc : ∀ c ∈ L, c.th = th → c.to ≠ 0) : WI (L ++ [beganZ L now th o]) (now + 1) := by
  intro j c hj
  by_cases hjl : j < L.length
  · rw [List.getElem?_append_left hjl] at hj
    have k := h j c hj
    refine ⟨by have := k.pos; omega, ?_, ?_, k.thr, fun i d hi hd => ?_⟩
    · rcases k.end_ with e | e
      · exact .inl e
      · exact .inr (by omega)
    · rw [List.take_append_of_le_length (by omega)]
      exact k.place
    · rw [List.getElem?_append_left (by omega)] at hd
      exact k.pairs i d hi hd
  · have hj2 : j = L.length := by
      have := (List.getElem?_eq_some_iff.1 hj).1
      simp at this
      omega
    subst hj2
    rw [List.getElem?_append_right (Nat.le_refl _)] at hj
    simp at hj
    subst hj
    refine ⟨⟨by simp [beganZ]; omega, by simp [beganZ]⟩, .inl rfl, ?_, hth, fun i d hi hd => ?_⟩
    · rw [List.take_left]
      rfl
    · rw [List.getElem?_append_left hi] at hd
      have k := h i d hd
      have hp := k.pos
      have hfr : (beganZ L now th o).fr = (now : Int) + 1 := rfl
      refine ⟨by rw [hfr]; omega, fun hne => ?_, fun e => ?_⟩
      · refine ⟨fun e => hne (e.trans rfl), ?_⟩
        rcases k.end_ with e | e
        · exact absurd e hne
        · rw [hfr]; omega
      · have hne := hc d (List.mem_of_getElem? hd) e
        refine ⟨hne, ?_⟩
        rcases k.end_ with e | e
        · exact absurd e hne
        · rw [hfr]; omega
theorem take_end {L : List CallZ} {i : Nat} {c : CallZ} (hc : L[i]? = some c) (a : AnZ) (t : Int) (j : Nat) : cntZ ((L.set i (endC c a t)).take j) = cntZ (L.take j) := by
  by_cases hij : i < j
  · rw [List.take_set]
    refine cntZ_set ?_ a t
    rw [List.getElem?_take_of_lt hij]
    exact hc
  · rw [List.take_set_of_le (by omega)]
theorem WI.end_ {L : List CallZ} {now : Nat} (h : WI L now) {i : Nat} {c : CallZ} (hc : L[i]? = some c) (hto : c.to = 0) (a : AnZ) : WI (L.set i (endC c a ((now + 1 : Nat) : Int))) (now + 1) := by
  have hi : i < L.length := (List.getElem?_eq_some_iff.1 hc).1
  have hT : ((now + 1 : Nat) : Int) = (now : Int) + 1 := rfl
  have ki := h i c hc
  intro j d hj
  by_cases e : i = j
  · subst e
    rw [List.getElem?_set_self hi] at hj
    cases hj
    refine ⟨⟨ki.pos.1, by have := ki.pos.2; show c.fr ≤ ((now + 1 : Nat) : Int); omega⟩, .inr ⟨by show c.fr < ((now + 1 : Nat) : Int); have := ki.pos.2; omega, Int.le_refl _⟩, by rw [take_end hc]; exact ki.place, ki.thr, fun m x hm hx => ?_⟩
    rw [List.getElem?_set_ne (by omega)] at hx
    have kp := ki.pairs m x hm hx
    refine ⟨kp.rise, fun hne => ⟨?_, (kp.apart hne).2⟩, kp.turn⟩
    show x.to ≠ ((now + 1 : Nat) : Int)
    rcases (h m x hx).end_ with e | e
    · exact absurd e hne
    · omega
  · rw [List.getElem?_set_ne e] at hj
    have kj := h j d hj
    refine ⟨by have := kj.pos; omega, ?_, by rw [take_end hc]; exact kj.place, kj.thr, fun m x hm hx => ?_⟩
    · rcases kj.end_ with e | e
      · exact .inl e
      · exact .inr (by omega)
    · by_cases e2 : i = m
      · subst e2
        rw [List.getElem?_set_self hi] at hx
        cases hx
        have kp := kj.pairs i c hm hc
        refine ⟨kp.rise, fun _ => ⟨?_, ?_⟩, fun e3 => absurd hto (kp.turn e3).1⟩
        · show ((now + 1 : Nat) : Int) ≠ d.to
          rcases kj.end_ with e | e
          · omega
          · omega
        · show ((now + 1 : Nat) : Int) ≠ d.fr
          have := kj.pos.2
          omega
      · rw [List.getElem?_set_ne e2] at hx
        exact kj.pairs m x hm hx
/-- Where all ended, it is right. -/
theorem right_of_steps : ∀ (rest pre : List CallZ), (∀ p c r, rest = p ++ c :: r → stepR (pre ++ p) c = true) → rightR pre rest = true
  | [], _, _ => rfl
  | c :: r, pre, h => by
    rw [rightR_cons, if_pos (by simpa using h [] c r rfl)]
    refine right_of_steps r _ fun p d s e => ?_
    have := h (c :: p) d s (by rw [e]; rfl)
    simpa using this
theorem WI.right {L : List CallZ} {now : Nat} (h : WI L now) (hall : ∀ c ∈ L, c.to ≠ 0) : rightR [] L = true := by
  refine right_of_steps L [] fun p c r e => ?_
  rw [List.nil_append]
  have hat : L[p.length]? = some c := by rw [e, List.getElem?_append_right (Nat.le_refl _)]; simp
  have htk : L.take p.length = p := by rw [e, List.take_left]
  have k := h p.length c hat
  have hfr : c.fr < c.to := by
    rcases k.end_ with e1 | e1
    · exact absurd e1 (hall c (List.mem_of_getElem? hat))
    · exact e1.1
  have hmem : ∀ d ∈ p, WPair d c ∧ d.to ≠ 0 := fun d hd => by
    obtain ⟨m, hm, rfl⟩ := List.getElem_of_mem hd
    have hm' : L[m]? = some p[m] := by rw [e, List.getElem?_append_left hm, List.getElem?_eq_getElem hm]
    exact ⟨k.pairs m _ hm hm', hall _ (List.mem_of_getElem? hm')⟩
  have hcl : Clear c p := fun d hd => by
    obtain ⟨hp, hne⟩ := hmem d hd
    have := hp.rise
    exact ⟨(hp.apart hne).1, (hp.apart hne).2, by omega, fun e => (hp.turn e).2⟩
  have hseq : ∀ l1 d l2, p = l1 ++ d :: l2 → d.th = c.th → d.pl = ((0 + cntZ l1 c.th : Nat) : Int) := fun l1 d l2 e2 eth => by
    have hat2 : L[l1.length]? = some d := by
      rw [e, e2, List.append_assoc, List.getElem?_append_right (Nat.le_refl _)]
      simp
    have k2 := h l1.length d hat2
    have htk2 : L.take l1.length = l1 := by rw [e, e2, List.append_assoc, List.take_left]
    rw [k2.place, htk2, eth, Nat.zero_add]
  have hin := (inB_eq c p 0 hseq).1 hcl
  unfold stepR
  rw [hin]
  have hr : riseB p c = true := by
    unfold riseB
    cases hg : p.getLast? with
    | none => rfl
    | some q =>
      have := (hmem q (List.mem_of_getLast? hg)).1.rise
      simpa using this
  rw [hr]
  simp only [Bool.and_eq_true, decide_eq_true_eq, beq_iff_eq]
  refine ⟨⟨⟨k.pos.1, hfr⟩, trivial⟩, ?_⟩
  rw [k.place, htk, Nat.zero_add]
/-- Which call of a thread is open. -/
def OpenT (L : List CallZ) (t : Int) (o : Int) : Prop := (o = 0 ∧ ∀ c ∈ L, c.th = t → c.to ≠ 0) ∨ ∃ (i : Nat) (c : CallZ), o = (i : Int) + 1 ∧ L[i]? = some c ∧ c.th = t ∧ c.to = 0 ∧ ∀ j d, L[j]? = some d → d.th = t → d.to = 0 → j = i
theorem OpenT.began {L : List CallZ} {now : Nat} {t th o : Int} {op : OpZ} (h : OpenT L t o) (hne : t ≠ th) : OpenT (L ++ [beganZ L now th op]) t o := by
  rcases h with ⟨rfl, h⟩ | ⟨i, c, rfl, hc, h1, h2, h3⟩
  · refine .inl ⟨rfl, fun c hc e => ?_⟩
    rcases List.mem_append.1 hc with hc | hc
    · exact h c hc e
    · simp at hc
      subst hc
      exact absurd e.symm hne
  · have hi := (List.getElem?_eq_some_iff.1 hc).1
    refine .inr ⟨i, c, rfl, by rw [List.getElem?_append_left hi]; exact hc, h1, h2, fun j d hd e1 e2 => ?_⟩
    by_cases hj : j < L.length
    · rw [List.getElem?_append_left hj] at hd
      exact h3 j d hd e1 e2
    · have hj2 : j = L.length := by
        have := (List.getElem?_eq_some_iff.1 hd).1
        simp at this
        omega
      subst hj2
      rw [List.getElem?_append_right (Nat.le_refl _)] at hd
      simp at hd
      subst hd
      exact absurd e1.symm hne
theorem OpenT.mine {L : List CallZ} {now : Nat} {th : Int} {op : OpZ} (h : ∀ c ∈ L, c.th = th → c.to ≠ 0) : OpenT (L ++ [beganZ L now th op]) th ((L.length : Int) + 1) := by
  refine .inr ⟨L.length, beganZ L now th op, rfl, by rw [List.getElem?_append_right (Nat.le_refl _)]; simp, rfl, rfl, fun j d hd e1 e2 => ?_⟩
  by_cases hj : j < L.length
  · rw [List.getElem?_append_left hj] at hd
    exact absurd e2 (h d (List.mem_of_getElem? hd) e1)
  · have := (List.getElem?_eq_some_iff.1 hd).1
    simp at this
    omega
theorem OpenT.ended {L : List CallZ} {i : Nat} {c : CallZ} {a : AnZ} {T t o : Int} (h : OpenT L t o) (hc : L[i]? = some c) (hne : c.th ≠ t) : OpenT (L.set i (endC c a T)) t o := by
  have hi : i < L.length := (List.getElem?_eq_some_iff.1 hc).1
  rcases h with ⟨rfl, h⟩ | ⟨m, d, rfl, hd, h1, h2, h3⟩
  · refine .inl ⟨rfl, fun x hx e => ?_⟩
    obtain ⟨j, hj, rfl⟩ := List.getElem_of_mem hx
    by_cases e2 : i = j
    · subst e2
      rw [List.getElem_set_self] at e
      exact absurd e hne
    · rw [List.getElem_set_ne e2] at e ⊢
      exact h _ (List.getElem_mem _) e
  · have him : i ≠ m := fun e => by
      subst e
      rw [hd] at hc
      cases hc
      exact hne h1
    refine .inr ⟨m, d, rfl, by rw [List.getElem?_set_ne him]; exact hd, h1, h2, fun j x hx e1 e2 => ?_⟩
    by_cases e3 : i = j
    · subst e3
      rw [List.getElem?_set_self hi] at hx
      cases hx
      exact absurd e1 hne
    · rw [List.getElem?_set_ne e3] at hx
      exact h3 j x hx e1 e2
theorem OpenT.closed {L : List CallZ} {i : Nat} {c : CallZ} {a : AnZ} {T t : Int} (hc : L[i]? = some c) (hT : T ≠ 0) (h3 : ∀ j d, L[j]? = some d → d.th = t → d.to = 0 → j = i) : ∀ x ∈ L.set i (endC c a T), x.th = t → x.to ≠ 0 := by
  have hi : i < L.length := (List.getElem?_eq_some_iff.1 hc).1
  intro x hx e e0
  obtain ⟨j, hj, rfl⟩ := List.getElem_of_mem hx
  by_cases e2 : i = j
  · subst e2
    rw [List.getElem_set_self] at e0
    exact hT e0
  · rw [List.getElem_set_ne e2] at e e0
    have hj' : j < L.length := by simpa using hj
    exact e2 (h3 j _ (List.getElem?_eq_getElem hj') e e0).symm
theorem small_wf {x : Int} (h0 : -1000000 ≤ x) (h1 : x ≤ 1000000) : wf64 x := WalkArith.wf_i64 (by omega)
theorem WI.wf {L : List CallZ} {now : Nat} (h : WI L now) (hn : now ≤ 100000) (hL : L.length ≤ 100000) : WfCalls L := by
  intro c hc
  obtain ⟨j, hj, rfl⟩ := List.getElem_of_mem hc
  have k := h j _ (List.getElem?_eq_getElem hj)
  have hp := cntZ_le (L.take j) L[j].th
  rw [List.length_take] at hp
  refine ⟨small_wf (by have := k.thr; omega) (by have := k.thr; omega), by rw [k.place]; exact small_wf (by omega) (by omega), small_wf (by have := k.pos; omega) (by have := k.pos; omega), ?_⟩
  rcases k.end_ with e | e
  · rw [e]; exact small_wf (by omega) (by omega)
  · have := k.pos; exact small_wf (by omega) (by omega)

end Go.Proofs.Ytjkabbabhfipbaa
