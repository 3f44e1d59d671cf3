/- Layer 7: a right history, as plain reckoning: both ways to ask it are one. · Layer 7: bellmanref07.Right. -/
import Derived.Test.YthngehpmoiojfaaTurnW7
import Derived.BigQuiet
import Derived.Deep.QuietTactic
import Derived.Deep.Cut
import Derived.Deep.CutRange
namespace Go.Proofs.Ythngehpmoiojfaa
open Go.RowKit

/-- The document's inner loop: how many calls of c's thread are ahead of it; none: something is wrong. -/
def inB (c : CallZ) : List CallZ → Nat → Option Nat
  | [], p => some p
  | d :: r, p => if d.to = c.to ∨ d.to = c.fr ∨ d.fr = c.to then none else if d.th = c.th then (if c.fr ≤ d.to ∨ d.pl ≠ (p : Int) then none else inB c r (p + 1)) else inB c r p
def riseB (pre : List CallZ) (c : CallZ) : Bool := match pre.getLast? with
  | none => true
  | some p => decide (p.fr < c.fr)
def stepR7 (pre : List CallZ) (c : CallZ) : Bool := decide (1 ≤ c.fr) && decide (c.fr < c.to) && riseB pre c && (match inB c pre 0 with
  | none => false
  | some p => c.pl == (p : Int))
def rightR : List CallZ → List CallZ → Bool
  | _, [] => true
  | pre, c :: r => if stepR7 pre c = true then rightR (pre ++ [c]) r else false
theorem rightR_cons (pre : List CallZ) (c : CallZ) (r : List CallZ) : rightR pre (c :: r) = if stepR7 pre c = true then rightR (pre ++ [c]) r else false := rfl

def Clear (c : CallZ) (pre : List CallZ) : Prop := ∀ d ∈ pre, d.to ≠ c.to ∧ d.to ≠ c.fr ∧ d.fr ≠ c.to ∧ (d.th = c.th → d.to < c.fr)
theorem cntZ_cons (d : CallZ) (r : List CallZ) (x : Int) : cntZ (d :: r) x = cntZ r x + if d.th = x then 1 else 0 := by
  unfold cntZ
  rw [List.countP_cons]
  simp
theorem inB_eq (c : CallZ) : ∀ (pre : List CallZ) (p : Nat), (∀ l1 d l2, pre = l1 ++ d :: l2 → d.th = c.th → d.pl = ((p + cntZ l1 c.th : Nat) : Int)) → (Clear c pre → inB c pre p = some (p + cntZ pre c.th)) ∧ (¬ Clear c pre → inB c pre p = none)
  | [], p, _ => ⟨fun _ => rfl, fun h => absurd (fun d hd => by simp at hd) h⟩
  | d :: r, p, h => by
    have hcl : Clear c (d :: r) ↔ (d.to ≠ c.to ∧ d.to ≠ c.fr ∧ d.fr ≠ c.to ∧ (d.th = c.th → d.to < c.fr)) ∧ Clear c r := by
      unfold Clear
      simp only [List.mem_cons, forall_eq_or_imp]
    rw [hcl, inB, cntZ_cons]
    by_cases h1 : d.to = c.to ∨ d.to = c.fr ∨ d.fr = c.to
    · rw [if_pos h1]
      refine ⟨fun ⟨⟨a, b, e, _⟩, _⟩ => ?_, fun _ => rfl⟩
      rcases h1 with h1 | h1 | h1
      · exact absurd h1 a
      · exact absurd h1 b
      · exact absurd h1 e
    · rw [if_neg h1]
      have n1 : d.to ≠ c.to := fun e => h1 (.inl e)
      have n2 : d.to ≠ c.fr := fun e => h1 (.inr (.inl e))
      have n3 : d.fr ≠ c.to := fun e => h1 (.inr (.inr e))
      by_cases ht : d.th = c.th
      · have hp : d.pl = (p : Int) := by
          have := h [] d r rfl ht
          simpa [cntZ] using this
        have IH := inB_eq c r (p + 1) (fun l1 e l2 he hth => by
          have := h (d :: l1) e l2 (by rw [he]; rfl) hth
          rw [cntZ_cons, if_pos ht] at this
          rw [this]
          congr 1
          omega)
        rw [if_pos ht, if_pos ht]
        by_cases h2 : c.fr ≤ d.to
        · rw [if_pos (.inl h2)]
          refine ⟨fun ⟨⟨_, _, _, h3⟩, _⟩ => ?_, fun _ => rfl⟩
          have := h3 ht
          omega
        · rw [if_neg (fun h3 => h3.elim (fun h4 => h2 h4) (fun h4 => h4 hp))]
          refine ⟨fun hc => ?_, fun hc => IH.2 fun hr => hc ⟨⟨n1, n2, n3, fun _ => by omega⟩, hr⟩⟩
          rw [IH.1 hc.2]
          congr 1
          omega
      · have IH := inB_eq c r p (fun l1 e l2 he hth => by
          have := h (d :: l1) e l2 (by rw [he]; rfl) hth
          rw [cntZ_cons, if_neg ht] at this
          exact this)
        rw [if_neg ht, if_neg ht]
        refine ⟨fun hc => ?_, fun hc => IH.2 fun hr => hc ⟨⟨n1, n2, n3, fun e => absurd e ht⟩, hr⟩⟩
        rw [IH.1 hc.2]
        rfl

/-- What is known of the calls ahead. -/
structure RInv (pre : List CallZ) (last : Int) (S : List Int) (N : Int → Option CallZ) : Prop where
  lst : (pre = [] ∧ last = 0) ∨ ∃ p, pre.getLast? = some p ∧ last = p.fr
  pos : ∀ c ∈ pre, 1 ≤ c.fr ∧ c.fr ≤ last
  st : ∀ x, x ∈ S ↔ ∃ c ∈ pre, c.to = x
  no : ∀ t, N t = none → cntZ pre t = 0
  so : ∀ t b, N t = some b → b ∈ pre ∧ b.th = t ∧ b.pl + 1 = ((cntZ pre t : Nat) : Int) ∧ ∀ c ∈ pre, c.th = t → c.to ≤ b.to
  sq : ∀ l1 d l2, pre = l1 ++ d :: l2 → d.pl = ((cntZ l1 d.th : Nat) : Int)
theorem RInv.start : RInv [] 0 [] (fun _ => none) :=
  ⟨.inl ⟨rfl, rfl⟩, fun c hc => (by simp at hc), fun x => (by simp), fun _ _ => rfl, fun _ _ h => (by cases h), fun l1 d l2 h => (by simp at h)⟩
theorem cnt_zero {pre : List CallZ} {t : Int} (h : cntZ pre t = 0) : ∀ c ∈ pre, c.th ≠ t := by
  intro c hc e
  have := List.countP_eq_zero.1 h c hc
  simp [e] at this
theorem wrap_small {x : Int} (h0 : 0 ≤ x) (h1 : x ≤ 1000000) : wrap64 x = x := by unfold wrap64; omega
theorem RInv.turn {pre : List CallZ} {last : Int} {S : List Int} {N : Int → Option CallZ} (h : RInv pre last S N) (hb : pre.length ≤ 100000) (c : CallZ) : turnOk c (N c.th) = true ↔ c.pl = ((cntZ pre c.th : Nat) : Int) ∧ ∀ d ∈ pre, d.th = c.th → d.to < c.fr := by
  cases hN : N c.th with
  | none =>
    have h0 := h.no _ hN
    rw [h0]
    simp only [turnOk, beq_iff_eq]
    exact ⟨fun e => ⟨e, fun d hd e' => absurd e' (cnt_zero h0 d hd)⟩, fun e => e.1⟩
  | some b =>
    obtain ⟨hm, hth, hpl, hle⟩ := h.so _ _ hN
    have hc := cntZ_le pre c.th
    simp only [turnOk, Bool.and_eq_true, beq_iff_eq, decide_eq_true_eq]
    rw [hpl, wrap_small (by omega) (by omega)]
    refine ⟨fun ⟨e, hlt⟩ => ⟨e, fun d hd e' => by have := hle d hd e'; omega⟩, fun ⟨e, hall⟩ => ⟨e, hall b hm hth⟩⟩
theorem RInv.step {pre : List CallZ} {last : Int} {S : List Int} {N : Int → Option CallZ} (h : RInv pre last S N) (hb : pre.length ≤ 100000) (c : CallZ) : stepR7 pre c = true ↔ ¬ (c.fr ≤ last ∨ c.to ≤ c.fr ∨ c.fr ∈ S ∨ c.to ∈ S) ∧ turnOk c (N c.th) = true := by
  have hin := inB_eq c pre 0 (fun l1 d l2 e ht => by rw [h.sq l1 d l2 e, ht, Nat.zero_add])
  rw [Nat.zero_add] at hin
  rw [h.turn hb c]
  have hrise : riseB pre c = true ∧ 1 ≤ c.fr ↔ last < c.fr := by
    unfold riseB
    rcases h.lst with ⟨rfl, rfl⟩ | ⟨p, hp, rfl⟩
    · simp; omega
    · rw [hp]
      have := (h.pos p (List.mem_of_getLast? hp)).1
      simp
      omega
  constructor
  · intro hs
    unfold stepR7 at hs
    simp only [Bool.and_eq_true, decide_eq_true_eq] at hs
    obtain ⟨⟨⟨h1, h2⟩, h3⟩, h4⟩ := hs
    have hlast := hrise.1 ⟨h3, h1⟩
    by_cases hc : Clear c pre
    · rw [hin.1 hc] at h4
      simp only [beq_iff_eq] at h4
      refine ⟨?_, h4, fun d hd e => (hc d hd).2.2.2 e⟩
      rintro (e | e | e | e)
      · omega
      · omega
      · obtain ⟨d, hd, e'⟩ := (h.st _).1 e
        exact (hc d hd).2.1 e'
      · obtain ⟨d, hd, e'⟩ := (h.st _).1 e
        exact (hc d hd).1 e'
    · rw [hin.2 hc] at h4
      cases h4
  · rintro ⟨hn, hpl, hall⟩
    have n1 : last < c.fr := by
      by_cases e : c.fr ≤ last
      · exact absurd (.inl e) hn
      · omega
    have n2 : c.fr < c.to := by
      by_cases e : c.to ≤ c.fr
      · exact absurd (.inr (.inl e)) hn
      · omega
    have hc : Clear c pre := fun d hd => by
      refine ⟨fun e => hn (.inr (.inr (.inr ((h.st _).2 ⟨d, hd, e⟩)))), fun e => hn (.inr (.inr (.inl ((h.st _).2 ⟨d, hd, e⟩)))), ?_, hall d hd⟩
      have := (h.pos d hd).2
      omega
    obtain ⟨r1, r2⟩ := hrise.2 n1
    unfold stepR7
    rw [hin.1 hc]
    simp only [Bool.and_eq_true, decide_eq_true_eq, beq_iff_eq]
    exact ⟨⟨⟨r2, n2⟩, r1⟩, hpl⟩
theorem RInv.next {pre : List CallZ} {last : Int} {S : List Int} {N : Int → Option CallZ} (h : RInv pre last S N) (hb : pre.length ≤ 100000) {c : CallZ} (hn : ¬ (c.fr ≤ last ∨ c.to ≤ c.fr ∨ c.fr ∈ S ∨ c.to ∈ S)) (ht : turnOk c (N c.th) = true) : RInv (pre ++ [c]) c.fr (c.to :: S) (updN N c.th c) := by
  obtain ⟨hpl, hall⟩ := (h.turn hb c).1 ht
  have n1 : last < c.fr := by
    by_cases e : c.fr ≤ last
    · exact absurd (.inl e) hn
    · omega
  have n2 : c.fr < c.to := by
    by_cases e : c.to ≤ c.fr
    · exact absurd (.inr (.inl e)) hn
    · omega
  have hl0 : 0 ≤ last := by
    rcases h.lst with ⟨_, rfl⟩ | ⟨p, hp, rfl⟩
    · exact Int.le_refl _
    · have := (h.pos p (List.mem_of_getLast? hp)).1
      omega
  refine ⟨.inr ⟨c, by simp, rfl⟩, fun d hd => ?_, fun x => ?_, fun t e => ?_, fun t b e => ?_, fun l1 d l2 e => ?_⟩
  · rcases List.mem_append.1 hd with hd | hd
    · have := h.pos d hd
      omega
    · simp at hd
      subst hd
      omega
  · rw [List.mem_cons, h.st]
    constructor
    · rintro (e | ⟨d, hd, e⟩)
      · exact ⟨c, by simp, e.symm⟩
      · exact ⟨d, by simp [hd], e⟩
    · rintro ⟨d, hd, e⟩
      rcases List.mem_append.1 hd with hd | hd
      · exact .inr ⟨d, hd, e⟩
      · simp at hd
        subst hd
        exact .inl e.symm
  · unfold updN at e
    by_cases h1 : t = c.th
    · rw [if_pos h1] at e
      cases e
    · rw [if_neg h1] at e
      rw [cntZ_snoc]
      unfold upF
      rw [if_neg h1]
      exact h.no t e
  · unfold updN at e
    rw [cntZ_snoc]
    unfold upF
    by_cases h1 : t = c.th
    · rw [if_pos h1] at e
      cases e
      rw [if_pos h1]
      refine ⟨by simp, h1.symm, by rw [h1]; omega, fun d hd e => ?_⟩
      rcases List.mem_append.1 hd with hd | hd
      · have := hall d hd (e.trans h1)
        omega
      · simp at hd
        subst hd
        exact Int.le_refl _
    · rw [if_neg h1] at e
      rw [if_neg h1]
      obtain ⟨a1, a2, a3, a4⟩ := h.so t b e
      refine ⟨by simp [a1], a2, a3, fun d hd e => ?_⟩
      rcases List.mem_append.1 hd with hd | hd
      · exact a4 d hd e
      · simp at hd
        subst hd
        exact absurd e.symm h1
  · rcases List.eq_nil_or_concat l2 with rfl | ⟨l2', x, rfl⟩
    · have e2 := List.append_inj' (s₁ := pre) (t₁ := [c]) (s₂ := l1) (t₂ := [d]) e rfl
      obtain ⟨rfl, e3⟩ := e2
      cases e3
      exact hpl
    · have e2 := List.append_inj' (s₁ := pre) (t₁ := [c]) (s₂ := l1 ++ d :: l2') (t₂ := [x]) (by rw [e]; simp) rfl
      exact h.sq l1 d l2' e2.1
theorem right_go : ∀ (rest pre : List CallZ) (last : Int) (S : List Int) (N : Int → Option CallZ), RInv pre last S N → pre.length + rest.length ≤ 100000 → (timeB rest last S && turnB rest N) = rightR pre rest
  | [], _, _, _, _, _, _ => rfl
  | c :: r, pre, last, S, N, h, hb => by
    rw [List.length_cons] at hb
    rw [timeB_cons, turnB_cons, rightR_cons]
    by_cases hs : stepR7 pre c = true
    · obtain ⟨h1, h2⟩ := (h.step (by omega) c).1 hs
      rw [if_neg h1, if_pos h2, if_pos hs]
      exact right_go r _ _ _ _ (h.next (by omega) h1 h2) (by rw [List.length_append]; simp; omega)
    · rw [if_neg hs]
      by_cases h1 : c.fr ≤ last ∨ c.to ≤ c.fr ∨ c.fr ∈ S ∨ c.to ∈ S
      · rw [if_pos h1]
        rfl
      · have h2 : ¬ turnOk c (N c.th) = true := fun h2 => hs ((h.step (by omega) c).2 ⟨h1, h2⟩)
        rw [if_neg h2]
        simp
theorem right_same (L : List CallZ) (hL : L.length ≤ 100000) : rightH L = rightR [] L := right_go L [] 0 [] _ RInv.start (by simpa using hL)

end Go.Proofs.Ythngehpmoiojfaa

namespace Go.Proofs.Ythngehpmoiojfaa
open Go.RowKit

theorem drewN_two (w : World) (n m : Nat) : (w.drewN n).drewN m = w.drewN (n + m) := by simp [World.drewN, Nat.add_assoc]
theorem drews {w v : World} {m : Nat} (h : ∃ n, v = w.drewN n) : ∃ n, v.drewN m = w.drewN n := by
  obtain ⟨n, rfl⟩ := h
  exact ⟨_, drewN_two w n m⟩
def badB (pre : List CallZ) (c : CallZ) : Bool := !(decide (1 ≤ c.fr) && decide (c.fr < c.to) && riseB pre c)
theorem stepR_bad {pre : List CallZ} {c : CallZ} (h : badB pre c = true) : stepR7 pre c = false := by
  unfold badB at h
  unfold stepR7
  rw [Bool.not_eq_true'] at h
  rw [h]
  rfl
theorem stepR_ok {pre : List CallZ} {c : CallZ} (h : badB pre c = false) : stepR7 pre c = (match inB c pre 0 with
  | none => false
  | some p => c.pl == (p : Int)) := by
  unfold badB at h
  unfold stepR7
  rw [Bool.not_eq_false'] at h
  rw [h]
  rfl
theorem getLast_take {L : List CallZ} {m : Nat} (h : m + 1 ≤ L.length) : (L.take (m + 1)).getLast? = some L[m] := by
  rw [List.take_succ_eq_append_getElem (by omega)]
  exact List.getLast?_concat
theorem inB_cons (c d : CallZ) (r : List CallZ) (p : Nat) : inB c (d :: r) p = if d.to = c.to ∨ d.to = c.fr ∨ d.fr = c.to then none else if d.th = c.th then (if c.fr ≤ d.to ∨ d.pl ≠ (p : Int) then none else inB c r (p + 1)) else inB c r p := rfl

set_option maxHeartbeats 8000000 in
set_option maxRecDepth 100000 in
theorem ref_Right {w : World} {v : Value} {L : List CallZ} (h : CallsIn w v L) (hL : L.length ≤ 100000) :
    Calls Try.prog 19 #[v] w fun e w' => e = .returned (.bool (rightR [] L)) ∧ ∃ n, w' = w.drewN n := by
  obtain ⟨a, c, rfl, hr⟩ := h
  have H := Lib.hid hr
  clear hr
  go_enter Try.func19, Try.ntmps19
  go_wp2
  go_loopw [3] (fun s wr => ∃ (i n : Nat), i ≤ L.length ∧ s = .int .i64 i ∧ wr = w.drewN n ∧ Hid (rightR [] L = rightR (L.take i) (L.drop i))) (fun s _ => L.length - (intOf s).toNat)
  case atStart => exact ⟨0, 0, Nat.zero_le _, rfl, rfl, Lib.hid rfl⟩
  case round =>
    obtain ⟨i, n, hi, rfl, rfl, Q⟩ := hrel
    by_cases hlt : i < L.length
    · obtain ⟨b, off, rfl, hb, hrg⟩ := H.out.range hlt
      have hd : L.drop i = L[i] :: L.drop (i + 1) := List.drop_eq_getElem_cons hlt
      have eq := Q.out
      rw [hd, rightR_cons] at eq
      have htk : L.take i ++ [L[i]] = L.take (i + 1) := (List.take_succ_eq_append_getElem hlt).symm
      rw [htk] at eq
      generalize L[i] = x at hrg eq
      have k0 : w.cell? ⟨b, off + i * 15, none⟩ = some (numV x.th) := hrg 0 _ rfl
      have k1 : w.cell? ⟨b, off + i * 15 + 1, none⟩ = some (numV x.pl) := hrg 1 _ rfl
      have k13 : w.cell? ⟨b, off + i * 15 + 13, none⟩ = some (numV x.fr) := hrg 13 _ rfl
      have k14 : w.cell? ⟨b, off + i * 15 + 14, none⟩ = some (numV x.to) := hrg 14 _ rfl
      have EQ := Lib.hid eq
      clear hrg hd htk eq
      go_upto_region 4 with fail
      go_cut [48] from 12 to 48 (fun t wx => t = .bool (badB (L.take i) x) ∧ ∃ m, wx = w.drewN m)
      case first =>
        by_cases h1 : x.fr < 1
        · have h1' : decide (x.fr < 1) = true := by simpa using h1
          have B := Lib.hid (show badB (L.take i) x = true by unfold badB; rw [show decide (1 ≤ x.fr) = false by simp; omega]; rfl)
          clear h1
          go_wp2
          go_quiet (fail)
          go_wp2
          go_meet
          case rel => exact ⟨by rw [B.out], _, drewN_two w n _⟩
        · have h1' : decide (x.fr < 1) = false := by simpa using h1
          by_cases h2 : x.to ≤ x.fr
          · have h2' : decide (x.to ≤ x.fr) = true := by simpa using h2
            have B := Lib.hid (show badB (L.take i) x = true by unfold badB; rw [show decide (x.fr < x.to) = false by simp; omega]; simp)
            clear h1 h2
            go_wp2
            go_quiet (fail)
            go_wp2
            go_meet
            case rel => exact ⟨by rw [B.out], _, drewN_two w n _⟩
          · have h2' : decide (x.to ≤ x.fr) = false := by simpa using h2
            have hbd : badB (L.take i) x = !riseB (L.take i) x := by unfold badB; rw [show decide (1 ≤ x.fr) = true by simp; omega, show decide (x.fr < x.to) = true by simp; omega]; simp
            clear h1 h2
            cases i with
            | zero =>
              have B := Lib.hid (show badB (L.take 0) x = false by rw [hbd]; rfl)
              clear hbd
              go_wp2
              go_quiet (fail)
              go_wp2
              go_meet
              case rel => exact ⟨by rw [B.out], _, drewN_two w n _⟩
            | succ m =>
              obtain ⟨b', off', e', _, hrg'⟩ := H.out.range (k := m) (by omega)
              cases e'
              have g13 : w.cell? ⟨b, off + m * 15 + 13, none⟩ = some (numV L[m].fr) := hrg' 13 _ rfl
              have hri : riseB (L.take (m + 1)) x = decide (L[m].fr < x.fr) := by unfold riseB; rw [getLast_take hi]
              rw [hri] at hbd
              clear hrg' hri
              generalize L[m].fr = y at g13 hbd
              by_cases h3 : x.fr ≤ y
              · have h3' : decide (x.fr ≤ y) = true := by simpa using h3
                have B := Lib.hid (show badB (L.take (m + 1)) x = true by rw [hbd]; simp; omega)
                clear hbd h3
                go_wp2
                go_quiet (fail)
                go_wp2
                go_meet
                case rel => exact ⟨by rw [B.out], _, drewN_two w n _⟩
              · have h3' : decide (x.fr ≤ y) = false := by simpa using h3
                have B := Lib.hid (show badB (L.take (m + 1)) x = false by rw [hbd]; simp; omega)
                clear hbd h3
                go_wp2
                go_quiet (fail)
                go_wp2
                go_meet
                case rel => exact ⟨by rw [B.out], _, drewN_two w n _⟩
      case rest =>
        obtain ⟨rfl, m, rfl⟩ := hcut
        cases hbd : badB (L.take i) x
        · have ST := Lib.hid (stepR_ok hbd)
          have FN := Lib.hid (show inB x (L.take i) 0 = none → rightR [] L = false from fun e => by rw [EQ.out, ST.out, e]; rfl)
          clear hbd
          go_wp2
          go_loopw [4, 5] (fun pv kv wq => ∃ (k q l : Nat), k ≤ i ∧ q ≤ k ∧ kv = .int .i64 k ∧ pv = .int .i64 q ∧ wq = w.drewN l ∧ Hid (inB x (L.take i) 0 = inB x ((L.take i).drop k) q)) (fun _ kv _ => i - (intOf kv).toNat)
          case atStart => exact ⟨0, 0, _, Nat.zero_le _, Nat.le_refl _, rfl, rfl, rfl, Lib.hid rfl⟩
          case round =>
            obtain ⟨k, q, l, hk, hq, rfl, rfl, rfl, I⟩ := hrel
            by_cases hki : k < i
            · have hkl : k < L.length := by omega
              obtain ⟨b', off', e', _, hrg'⟩ := H.out.range hkl
              cases e'
              have hdk : (L.take i).drop k = L[k] :: (L.take i).drop (k + 1) := by
                rw [List.drop_eq_getElem_cons (by rw [List.length_take]; omega)]
                simp
              have e := I.out
              rw [hdk, inB_cons] at e
              have d0 : w.cell? ⟨b, off + k * 15, none⟩ = some (numV L[k].th) := hrg' 0 _ rfl
              have d1 : w.cell? ⟨b, off + k * 15 + 1, none⟩ = some (numV L[k].pl) := hrg' 1 _ rfl
              have d13 : w.cell? ⟨b, off + k * 15 + 13, none⟩ = some (numV L[k].fr) := hrg' 13 _ rfl
              have d14 : w.cell? ⟨b, off + k * 15 + 14, none⟩ = some (numV L[k].to) := hrg' 14 _ rfl
              clear hrg' hdk
              generalize L[k].th = dth at d0 e
              generalize L[k].pl = dpl at d1 e
              generalize L[k].fr = dfr at d13 e
              generalize L[k].to = dto at d14 e
              by_cases a1 : dto = x.to
              · have F := Lib.hid (FN.out (by rw [e, if_pos (.inl a1)]))
                have a1' : (dto == x.to) = true := by simpa using a1
                clear e a1
                go_wp2
                go_quiet (fail)
                go_wp2
                go_ret
                refine ⟨by rw [F.out]; rfl, ?_⟩
                first | exact ⟨_, rfl⟩ | exact drews ⟨_, rfl⟩ | exact drews (drews ⟨_, rfl⟩) | exact drews (drews (drews ⟨_, rfl⟩))
              · have a1' : (dto == x.to) = false := by simpa using a1
                by_cases a2 : dto = x.fr
                · have F := Lib.hid (FN.out (by rw [e, if_pos (.inr (.inl a2))]))
                  have a2' : (dto == x.fr) = true := by simpa using a2
                  clear e a1 a2
                  go_wp2
                  go_quiet (fail)
                  go_wp2
                  go_ret
                  refine ⟨by rw [F.out]; rfl, ?_⟩
                  first | exact ⟨_, rfl⟩ | exact drews ⟨_, rfl⟩ | exact drews (drews ⟨_, rfl⟩) | exact drews (drews (drews ⟨_, rfl⟩))
                · have a2' : (dto == x.fr) = false := by simpa using a2
                  by_cases a3 : dfr = x.to
                  · have F := Lib.hid (FN.out (by rw [e, if_pos (.inr (.inr a3))]))
                    have a3' : (dfr == x.to) = true := by simpa using a3
                    clear e a1 a2 a3
                    go_wp2
                    go_quiet (fail)
                    go_wp2
                    go_ret
                    refine ⟨by rw [F.out]; rfl, ?_⟩
                    first | exact ⟨_, rfl⟩ | exact drews ⟨_, rfl⟩ | exact drews (drews ⟨_, rfl⟩) | exact drews (drews (drews ⟨_, rfl⟩))
                  · have a3' : (dfr == x.to) = false := by simpa using a3
                    rw [if_neg (by rintro (h | h | h); exact a1 h; exact a2 h; exact a3 h)] at e
                    clear a1 a2 a3
                    by_cases a4 : dth = x.th
                    · have a4' : (dth == x.th) = true := by simpa using a4
                      rw [if_pos a4] at e
                      clear a4
                      by_cases a5 : x.fr ≤ dto
                      · have F := Lib.hid (FN.out (by rw [e, if_pos (.inl a5)]))
                        have a5' : decide (x.fr ≤ dto) = true := by simpa using a5
                        clear e a5
                        go_wp2
                        go_quiet (fail)
                        go_wp2
                        go_quiet (fail)
                        go_wp2
                        go_quiet (fail)
                        go_wp2
                        go_ret
                        refine ⟨by rw [F.out]; rfl, ?_⟩
                        first | exact ⟨_, rfl⟩ | exact drews ⟨_, rfl⟩ | exact drews (drews ⟨_, rfl⟩) | exact drews (drews (drews ⟨_, rfl⟩))
                      · have a5' : decide (x.fr ≤ dto) = false := by simpa using a5
                        by_cases a6 : dpl = (q : Int)
                        · have a6' : (dpl != (q : Int)) = false := by simpa using a6
                          have J := Lib.hid (show inB x (L.take i) 0 = inB x ((L.take i).drop (k + 1)) (q + 1) by rw [e, if_neg (by rintro (h | h); exact a5 h; exact h a6)])
                          clear e a5 a6
                          go_wp2
                          go_quiet (fail)
                          go_wp2
                          go_quiet (fail)
                          go_wp2
                          go_quiet (fail)
                          go_wp2
                          go_roundw
                          case rel => exact ⟨k + 1, q + 1, _, by omega, by omega, by go_num, by go_num, rfl, J⟩
                          case measure => simp [intOf]; omega
                        · have a6' : (dpl != (q : Int)) = true := by simpa using a6
                          have F := Lib.hid (FN.out (by rw [e, if_pos (.inr a6)]))
                          clear e a5 a6
                          go_wp2
                          go_quiet (fail)
                          go_wp2
                          go_quiet (fail)
                          go_wp2
                          go_quiet (fail)
                          go_wp2
                          go_ret
                          refine ⟨by rw [F.out]; rfl, ?_⟩
                          first | exact ⟨_, rfl⟩ | exact drews ⟨_, rfl⟩ | exact drews (drews ⟨_, rfl⟩) | exact drews (drews (drews ⟨_, rfl⟩))
                    · have a4' : (dth == x.th) = false := by simpa using a4
                      rw [if_neg a4] at e
                      have J := Lib.hid e
                      clear a4 e
                      go_wp2
                      go_quiet (fail)
                      go_wp2
                      go_quiet (fail)
                      go_wp2
                      go_roundw
                      case rel => exact ⟨k + 1, q, _, by omega, by omega, by go_num, rfl, rfl, J⟩
                      case measure => simp [intOf]; omega
            · obtain rfl : k = i := by omega
              have e := I.out
              rw [List.drop_of_length_le (by rw [List.length_take]; omega)] at e
              have e : inB x (L.take k) 0 = some q := e
              have ST2 := ST.out
              rw [e] at ST2
              have ST2 : stepR7 (L.take k) x = (x.pl == (q : Int)) := ST2
              clear e
              by_cases a7 : x.pl = (q : Int)
              · have a7' : (x.pl != (q : Int)) = false := by simpa using a7
                have J := Lib.hid (show rightR [] L = rightR (L.take (k + 1)) (L.drop (k + 1)) by rw [EQ.out, ST2, if_pos (by simpa using a7)])
                clear ST2 a7 hki
                go_wp2
                go_roundw
                case rel => exact ⟨k + 1, _, by omega, by go_num, rfl, J⟩
                case measure => simp [intOf]; omega
              · have a7' : (x.pl != (q : Int)) = true := by simpa using a7
                have F := Lib.hid (show rightR [] L = false by rw [EQ.out, ST2, if_neg (by simpa using a7)])
                clear ST2 a7 hki
                go_wp2
                go_ret
                exact ⟨by rw [F.out]; rfl, _, rfl⟩
        · have F := Lib.hid (show rightR [] L = false by rw [EQ.out, stepR_bad hbd]; rfl)
          clear hbd
          go_wp2
          go_ret
          exact ⟨by rw [F.out]; rfl, _, rfl⟩
    · obtain rfl : i = L.length := by omega
      go_wp2
      go_ret
      exact ⟨by rw [Q.out, List.drop_length, List.take_length]; rfl, n, rfl⟩

end Go.Proofs.Ythngehpmoiojfaa
