/- Layer 7: a right history, as plain reckoning: both ways to ask it are one. -/
import Derived.Test.YtjkabbabhfipbaaTurnW7
namespace Go.Proofs.Ytjkabbabhfipbaa
open Go.RowKit

/-- The document's inner loop: how many calls of c's thread are ahead of it; none: something is wrong. -/
def inB (c : CallZ) : List CallZ → Nat → Option Nat
  | [], p => some p
  | d :: r, p => if d.to = c.to ∨ d.to = c.fr ∨ d.fr = c.to then none else if d.th = c.th then (if c.fr ≤ d.to ∨ d.pl ≠ (p : Int) then none else inB c r (p + 1)) else inB c r p
def riseB (pre : List CallZ) (c : CallZ) : Bool := match pre.getLast? with
  | none => true
  | some p => decide (p.fr < c.fr)
def stepR (pre : List CallZ) (c : CallZ) : Bool := decide (1 ≤ c.fr) && decide (c.fr < c.to) && riseB pre c && (match inB c pre 0 with
  | none => false
  | some p => c.pl == (p : Int))
def rightR : List CallZ → List CallZ → Bool
  | _, [] => true
  | pre, c :: r => if stepR pre c = true then rightR (pre ++ [c]) r else false
theorem rightR_cons (pre : List CallZ) (c : CallZ) (r : List CallZ) : rightR pre (c :: r) = if stepR pre c = true then rightR (pre ++ [c]) r else false := rfl

def Clear (c : CallZ) (pre : List CallZ) : Prop := ∀ d ∈ pre, d.to ≠ c.to ∧ d.to ≠ c.fr ∧ d.fr ≠ c.to ∧ (d.th = c.th → d.to < c.fr)
theorem cntZ_cons (d : CallZ) (r : List CallZ) (x : Int) : cntZ (d :: r) x = cntZ r x + if d.th = x then 1 else 0 := by
  unfold cntZ
  rw [List.countP_cons]
  simp
theorem inB_eq (c : CallZ) : ∀ (pre : List CallZ) (p : Nat), (∀ l1 d l2, pre = l1 ++ d :: l2 → d.th = c.th → d.pl = ((p + cntZ l1 c.th : Nat) : Int)) → (Clear c pre → inB c pre p = some (p + cntZ pre c.th)) ∧ (¬ Clear c pre → inB c pre p = none)
  | [], p, _ => ⟨fun _ => rfl, fun h => absurd (fun d hd => by simp at hd) h⟩
  | d :: r, p, h => by
    have hcl : Clear c (d :: r) ↔ (d.to ≠ c.to ∧ d.to ≠ c.fr ∧ d.fr ≠ c.to ∧ (d.th = c.th → d.to < c.fr)) ∧ Clear c r := by
      unfold Clear
      simp only [List.mem_cons, forall_eq_or_imp]
    rw [hcl, inB, cntZ_cons]
    by_cases h1 : d.to = c.to ∨ d.to = c.fr ∨ d.fr = c.to
    · rw [if_pos h1]
      refine ⟨fun ⟨⟨a, b, e, _⟩, _⟩ => ?_, fun _ => rfl⟩
      rcases h1 with h1 | h1 | h1
      · exact absurd h1 a
      · exact absurd h1 b
      · exact absurd h1 e
    · rw [if_neg h1]
      have n1 : d.to ≠ c.to := fun e => h1 (.inl e)
      have n2 : d.to ≠ c.fr := fun e => h1 (.inr (.inl e))
      have n3 : d.fr ≠ c.to := fun e => h1 (.inr (.inr e))
      by_cases ht : d.th = c.th
      · have hp : d.pl = (p : Int) := by
          have := h [] d r rfl ht
          simpa [cntZ] using this
        have IH := inB_eq c r (p + 1) (fun l1 e l2 he hth => by
          have := h (d :: l1) e l2 (by rw [he]; rfl) hth
          rw [cntZ_cons, if_pos ht] at this
          rw [this]
          congr 1
          omega)
        rw [if_pos ht, if_pos ht]
        by_cases h2 : c.fr ≤ d.to
        · rw [if_pos (.inl h2)]
          refine ⟨fun ⟨⟨_, _, _, h3⟩, _⟩ => ?_, fun _ => rfl⟩
          have := h3 ht
          omega
        · rw [if_neg (fun h3 => h3.elim (fun h4 => h2 h4) (fun h4 => h4 hp))]
          refine ⟨fun hc => ?_, fun hc => IH.2 fun hr => hc ⟨⟨n1, n2, n3, fun _ => by omega⟩, hr⟩⟩
          rw [IH.1 hc.2]
          congr 1
          omega
      · have IH := inB_eq c r p (fun l1 e l2 he hth => by
          have := h (d :: l1) e l2 (by rw [he]; rfl) hth
          rw [cntZ_cons, if_neg ht] at this
          exact this)
        rw [if_neg ht, if_neg ht]
        refine ⟨fun hc => ?_, fun hc => IH.2 fun hr => hc ⟨⟨n1, n2, n3, fun e => absurd e ht⟩, hr⟩⟩
        rw [IH.1 hc.2]
        rfl

/-- What is known of the calls ahead. -/
structure RInv (pre : List CallZ) (last : Int) (S : List Int) (N : Int → Option CallZ) : Prop where
  lst : (pre = [] ∧ last = 0) ∨ ∃ p, pre.getLast? = some p ∧ last = p.fr
  pos : ∀ c ∈ pre, 1 ≤ c.fr ∧ c.fr ≤ last
  st : ∀ x, x ∈ S ↔ ∃ c ∈ pre, c.to = x
  no : ∀ t, N t = none → cntZ pre t = 0
  so : ∀ t b, N t = some b → b ∈ pre ∧ b.th = t ∧ b.pl + 1 = ((cntZ pre t : Nat) : Int) ∧ ∀ c ∈ pre, c.th = t → c.to ≤ b.to
  sq : ∀ l1 d l2, pre = l1 ++ d :: l2 → d.pl = ((cntZ l1 d.th : Nat) : Int)
theorem RInv.start : RInv [] 0 [] (fun _ => none) :=
  ⟨.inl ⟨rfl, rfl⟩, fun c hc => (by simp at hc), fun x => (by simp), fun _ _ => rfl, fun _ _ h => (by cases h), fun l1 d l2 h => (by simp at h)⟩
theorem cnt_zero {pre : List CallZ} {t : Int} (h : cntZ pre t = 0) : ∀ c ∈ pre, c.th ≠ t := by
  intro c hc e
  have := List.countP_eq_zero.1 h c hc
  simp [e] at this
theorem wrap_small {x : Int} (h0 : 0 ≤ x) (h1 : x ≤ 1000000) : wrap64 x = x := by unfold wrap64; omega
theorem RInv.turn {pre : List CallZ} {last : Int} {S : List Int} {N : Int → Option CallZ} (h : RInv pre last S N) (hb : pre.length ≤ 100000) (c : CallZ) : turnOk c (N c.th) = true ↔ c.pl = ((cntZ pre c.th : Nat) : Int) ∧ ∀ d ∈ pre, d.th = c.th → d.to < c.fr := by
  cases hN : N c.th with
  | none =>
    have h0 := h.no _ hN
    rw [h0]
    simp only [turnOk, beq_iff_eq]
    exact ⟨fun e => ⟨e, fun d hd e' => absurd e' (cnt_zero h0 d hd)⟩, fun e => e.1⟩
  | some b =>
    obtain ⟨hm, hth, hpl, hle⟩ := h.so _ _ hN
    have hc := cntZ_le pre c.th
    simp only [turnOk, Bool.and_eq_true, beq_iff_eq, decide_eq_true_eq]
    rw [hpl, wrap_small (by omega) (by omega)]
    refine ⟨fun ⟨e, hlt⟩ => ⟨e, fun d hd e' => by have := hle d hd e'; omega⟩, fun ⟨e, hall⟩ => ⟨e, hall b hm hth⟩⟩
theorem RInv.step {pre : List CallZ} {last : Int} {S : List Int} {N : Int → Option CallZ} (h : RInv pre last S N) (hb : pre.length ≤ 100000) (c : CallZ) : stepR pre c = true ↔ ¬ (c.fr ≤ last ∨ c.to ≤ c.fr ∨ c.fr ∈ S ∨ c.to ∈ S) ∧ turnOk c (N c.th) = true := by
  have hin := inB_eq c pre 0 (fun l1 d l2 e ht => by rw [h.sq l1 d l2 e, ht, Nat.zero_add])
  rw [Nat.zero_add] at hin
  rw [h.turn hb c]
  have hrise : riseB pre c = true ∧ 1 ≤ c.fr ↔ last < c.fr := by
    unfold riseB
    rcases h.lst with ⟨rfl, rfl⟩ | ⟨p, hp, rfl⟩
    · simp; omega
    · rw [hp]
      have := (h.pos p (List.mem_of_getLast? hp)).1
      simp
      omega
  constructor
  · intro hs
    unfold stepR at hs
    simp only [Bool.and_eq_true, decide_eq_true_eq] at hs
    obtain ⟨⟨⟨h1, h2⟩, h3⟩, h4⟩ := hs
    have hlast := hrise.1 ⟨h3, h1⟩
    by_cases hc : Clear c pre
    · rw [hin.1 hc] at h4
      simp only [beq_iff_eq] at h4
      refine ⟨?_, h4, fun d hd e => (hc d hd).2.2.2 e⟩
      rintro (e | e | e | e)
      · omega
      · omega
      · obtain ⟨d, hd, e'⟩ := (h.st _).1 e
        exact (hc d hd).2.1 e'
      · obtain ⟨d, hd, e'⟩ := (h.st _).1 e
        exact (hc d hd).1 e'
    · rw [hin.2 hc] at h4
      cases h4
  · rintro ⟨hn, hpl, hall⟩
    have n1 : last < c.fr := by
      by_cases e : c.fr ≤ last
      · exact absurd (.inl e) hn
      · omega
    have n2 : c.fr < c.to := by
      by_cases e : c.to ≤ c.fr
      · exact absurd (.inr (.inl e)) hn
      · omega
    have hc : Clear c pre := fun d hd => by
      refine ⟨fun e => hn (.inr (.inr (.inr ((h.st _).2 ⟨d, hd, e⟩)))), fun e => hn (.inr (.inr (.inl ((h.st _).2 ⟨d, hd, e⟩)))), ?_, hall d hd⟩
      have := (h.pos d hd).2
      omega
    obtain ⟨r1, r2⟩ := hrise.2 n1
    unfold stepR
    rw [hin.1 hc]
    simp only [Bool.and_eq_true, decide_eq_true_eq, beq_iff_eq]
    exact ⟨⟨⟨r2, n2⟩, r1⟩, hpl⟩
theorem RInv.next {pre : List CallZ} {last : Int} {S : List Int} {N : Int → Option CallZ} (h : RInv pre last S N) (hb : pre.length ≤ 100000) {c : CallZ} (hn : ¬ (c.fr ≤ last ∨ c.to ≤ c.fr ∨ c.fr ∈ S ∨ c.to ∈ S)) (ht : turnOk c (N c.th) = true) : RInv (pre ++ [c]) c.fr (c.to :: S) (updN N c.th c) := by
  obtain ⟨hpl, hall⟩ := (h.turn hb c).1 ht
  have n1 : last < c.fr := by
    by_cases e : c.fr ≤ last
    · exact absurd (.inl e) hn
    · omega
  have n2 : c.fr < c.to := by
    by_cases e : c.to ≤ c.fr
    · exact absurd (.inr (.inl e)) hn
    · omega
  have hl0 : 0 ≤ last := by
    rcases h.lst with ⟨_, rfl⟩ | ⟨p, hp, rfl⟩
    · exact Int.le_refl _
    · have := (h.pos p (List.mem_of_getLast? hp)).1
      omega
  refine ⟨.inr ⟨c, by simp, rfl⟩, fun d hd => ?_, fun x => ?_, fun t e => ?_, fun t b e => ?_, fun l1 d l2 e => ?_⟩
  · rcases List.mem_append.1 hd with hd | hd
    · have := h.pos d hd
      omega
    · simp at hd
      subst hd
      omega
  · rw [List.mem_cons, h.st]
    constructor
    · rintro (e | ⟨d, hd, e⟩)
      · exact ⟨c, by simp, e.symm⟩
      · exact ⟨d, by simp [hd], e⟩
    · rintro ⟨d, hd, e⟩
      rcases List.mem_append.1 hd with hd | hd
      · exact .inr ⟨d, hd, e⟩
      · simp at hd
        subst hd
        exact .inl e.symm
  · unfold updN at e
    by_cases h1 : t = c.th
    · rw [if_pos h1] at e
      cases e
    · rw [if_neg h1] at e
      rw [cntZ_snoc]
      unfold upF
      rw [if_neg h1]
      exact h.no t e
  · unfold updN at e
    rw [cntZ_snoc]
    unfold upF
    by_cases h1 : t = c.th
    · rw [if_pos h1] at e
      cases e
      rw [if_pos h1]
      refine ⟨by simp, h1.symm, by rw [h1]; omega, fun d hd e => ?_⟩
      rcases List.mem_append.1 hd with hd | hd
      · have := hall d hd (e.trans h1)
        omega
      · simp at hd
        subst hd
        exact Int.le_refl _
    · rw [if_neg h1] at e
      rw [if_neg h1]
      obtain ⟨a1, a2, a3, a4⟩ := h.so t b e
      refine ⟨by simp [a1], a2, a3, fun d hd e => ?_⟩
      rcases List.mem_append.1 hd with hd | hd
      · exact a4 d hd e
      · simp at hd
        subst hd
        exact absurd e.symm h1
  · rcases List.eq_nil_or_concat l2 with rfl | ⟨l2', x, rfl⟩
    · have e2 := List.append_inj' (s₁ := pre) (t₁ := [c]) (s₂ := l1) (t₂ := [d]) e rfl
      obtain ⟨rfl, e3⟩ := e2
      cases e3
      exact hpl
    · have e2 := List.append_inj' (s₁ := pre) (t₁ := [c]) (s₂ := l1 ++ d :: l2') (t₂ := [x]) (by rw [e]; simp) rfl
      exact h.sq l1 d l2' e2.1
theorem right_go : ∀ (rest pre : List CallZ) (last : Int) (S : List Int) (N : Int → Option CallZ), RInv pre last S N → pre.length + rest.length ≤ 100000 → (timeB rest last S && turnB rest N) = rightR pre rest
  | [], _, _, _, _, _, _ => rfl
  | c :: r, pre, last, S, N, h, hb => by
    rw [List.length_cons] at hb
    rw [timeB_cons, turnB_cons, rightR_cons]
    by_cases hs : stepR pre c = true
    · obtain ⟨h1, h2⟩ := (h.step (by omega) c).1 hs
      rw [if_neg h1, if_pos h2, if_pos hs]
      exact right_go r _ _ _ _ (h.next (by omega) h1 h2) (by rw [List.length_append]; simp; omega)
    · rw [if_neg hs]
      by_cases h1 : c.fr ≤ last ∨ c.to ≤ c.fr ∨ c.fr ∈ S ∨ c.to ∈ S
      · rw [if_pos h1]
        rfl
      · have h2 : ¬ turnOk c (N c.th) = true := fun h2 => hs ((h.step (by omega) c).2 ⟨h1, h2⟩)
        rw [if_neg h2]
        simp
theorem right_same (L : List CallZ) (hL : L.length ≤ 100000) : rightH L = rightR [] L := right_go L [] 0 [] _ RInv.start (by simpa using hL)

end Go.Proofs.Ytjkabbabhfipbaa
