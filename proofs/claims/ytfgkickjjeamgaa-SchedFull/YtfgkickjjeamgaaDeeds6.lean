/- Layer 6 (package sched): threads that are chains of deeds run as reckoned. -/
import Derived.Test.YtfgkickjjeamgaaChain6
namespace Go.Proofs.Ytfgkickjjeamgaa
open Go.RowKit

/-- Deeds over a world of theirs: what lies in blocks of N they neither need nor touch, but for what lies in blocks of C, which they read. -/
structure Deeds {X D : Type} (act : X → D → X × Bool) (dinv : (Nat → Prop) → X → World → Prop) (isD : (Nat → Prop) → D → Value → World → Prop) : Prop where
  frame : ∀ {N N' x w w'}, dinv N x w → (∀ k, N k → N' k) → (∀ k, N' k → N k ∨ (w.heap.size ≤ k ∧ k < w'.heap.size)) → Only N' w w' → dinv N' x w'
  dval : ∀ {C d v w}, isD C d v w → ∃ f c, v = fnV f c ∧ Enters f
  dframe : ∀ {C C' d v w w'}, isD C d v w → (∀ k, C k → C' k) → Only (fun k => ¬ C k) w w' → isD C' d v w'
  act_ : ∀ {N C x d f c w}, dinv N x w → isD C d (fnV f c) w → (∀ k, C k → N k) → Calls Try.prog f c w fun e w' => e = .returned (.bool (act x d).2) ∧ Only (fun k => ¬ N k) w w' ∧ dinv N (act x d).1 w'

section
variable {X D : Type}
/-- Threads that are what is left of chains. -/
def chainM (n : Nat) (act : X → D → X × Bool) : Mach (X × List (List D)) where
  n := n
  fin := fun s t => match s.2[t]? with
    | some (_ :: _) => false
    | _ => true
  go := fun s t => match s.2[t]? with
    | some (d :: ds) => (((act s.1 d).1, if (act s.1 d).2 = true then s.2.set t ds else s.2), (act s.1 d).2)
    | _ => (s, false)

structure StepAt (isD : (Nat → Prop) → D → Value → World → Prop) (C : Nat → Prop) (w : World) (B Dk o cap : Nat) (ds : List D) : Prop where
  cb : C B
  cd : C Dk
  blk : Blk 53 w B [.slice (some ⟨Dk, o, none⟩) ds.length cap]
  le : ds.length ≤ cap
  at_ : ∀ (i : Nat) d, ds[i]? = some d → ∃ v, w.cell? ⟨Dk, o + i, none⟩ = some v ∧ isD C d v w
/-- A step that does these deeds. -/
def StepIs (isD : (Nat → Prop) → D → Value → World → Prop) (C : Nat → Prop) (w : World) (v : Value) (ds : List D) : Prop :=
  (ds = [] ∧ v = .nilFunc) ∨ (ds ≠ [] ∧ ∃ B Dk o cap, v = fnV 24 #[.pointer (some ⟨B, 0, none⟩)] ∧ StepAt isD C w B Dk o cap ds)

structure ChainInv (n : Nat) (dinv : (Nat → Prop) → X → World → Prop) (isD : (Nat → Prop) → D → Value → World → Prop) (C M : Nat → Prop) (s : X × List (List D)) (vs : List Value) (w : World) : Prop where
  apart : ∀ k, C k → ¬ M k
  clt : ∀ k, C k → k < w.heap.size
  mlt : ∀ k, M k → k < w.heap.size
  dinv : dinv (fun k => M k ∨ C k) s.1 w
  len : vs.length = n
  rem : s.2.length = n
  steps : ∀ (t : Nat) v ds, vs[t]? = some v → s.2[t]? = some ds → StepIs isD C w v ds
def chainInv (n : Nat) (dinv : (Nat → Prop) → X → World → Prop) (isD : (Nat → Prop) → D → Value → World → Prop) (M : Nat → Prop) (s : X × List (List D)) (vs : List Value) (w : World) : Prop := ∃ C, ChainInv n dinv isD C M s vs w

variable {act : X → D → X × Bool} {dinv : (Nat → Prop) → X → World → Prop} {isD : (Nat → Prop) → D → Value → World → Prop}
theorem only_cell {S : Nat → Prop} {w w' : World} {b o : Nat} {v : Value} (h : w.cell? ⟨b, o, none⟩ = some v) (ho : Only S w w') (hb : ¬ S b) : w'.cell? ⟨b, o, none⟩ = some v :=
  (World.cell?_of_block (ho.block b (World.block_lt_of_cell? w ⟨b, o, none⟩ h) hb)).trans h
theorem StepIs.frame (S : Deeds act dinv isD) {C C' : Nat → Prop} {w w' : World} {v : Value} {ds : List D} (h : StepIs isD C w v ds) (hC : ∀ k, C k → C' k) (ho : Only (fun k => ¬ C k) w w') : StepIs isD C' w' v ds := by
  rcases h with h | ⟨h0, B, Dk, o, cap, h1, h2⟩
  · exact .inl h
  · refine .inr ⟨h0, B, Dk, o, cap, h1, hC _ h2.cb, hC _ h2.cd, h2.blk.only ho (fun h => h h2.cb), h2.le, fun i d hd => ?_⟩
    obtain ⟨v, hv, hi⟩ := h2.at_ i d hd
    exact ⟨v, only_cell hv ho (fun h => h h2.cd), S.dframe hi hC ho⟩
theorem enters_chain : Enters 24 := fun _ _ => by kernel_rfl

theorem chain_sys (S : Deeds act dinv isD) (n : Nat) : Sys (chainM n act) (chainInv n dinv isD) where
  len := fun ⟨_, h⟩ => h.len
  val := fun {M a vs w} ⟨C, h⟩ t v hv => by
    have hlt : t < vs.length := (List.getElem?_eq_some_iff.1 hv).1
    have hlt' : t < a.2.length := by rw [h.rem, ← h.len]; exact hlt
    have hds := List.getElem?_eq_getElem hlt'
    rcases h.steps t v _ hv hds with ⟨e, rfl⟩ | ⟨e, B, Dk, o, cap, rfl, _⟩
    · exact .inl ⟨rfl, by simp [chainM, hds, e]⟩
    · refine .inr ⟨_, _, rfl, enters_chain, ?_⟩
      show (match a.2[t]? with | some (_ :: _) => false | _ => true) = false
      rw [hds]
      cases hd : a.2[t] with
      | nil => exact absurd hd e
      | cons d ds => rfl
  frame := fun {M M' a vs w w'} ⟨C, h⟩ h1 h2 ho => by
    have hC : ∀ k, C k → ¬ M' k := fun k hk hm => by
      rcases h2 k hm with h3 | h3
      · exact h.apart k hk h3
      · have := h.clt k hk; omega
    refine ⟨C, hC, fun k hk => Nat.lt_of_lt_of_le (h.clt k hk) ho.size, fun k hk => ?_, ?_, h.len, h.rem, fun t v ds hv hds => (h.steps t v ds hv hds).frame S (fun _ h => h) (ho.mono fun k _ hk hc => hC k hc hk)⟩
    · rcases h2 k hk with h3 | h3
      · exact Nat.lt_of_lt_of_le (h.mlt k h3) ho.size
      · exact h3.2
    · exact S.frame h.dinv (fun k hk => hk.imp (h1 k) id) (fun k hk => by
        rcases hk with hk | hk
        · exact (h2 k hk).imp .inl id
        · exact .inl (.inr hk)) (ho.mono fun k _ hk => .inl hk)
  step := fun {M a vs w} ⟨C, h⟩ t f c hv => by
    have hlt : t < vs.length := (List.getElem?_eq_some_iff.1 hv).1
    have hlt' : t < a.2.length := by rw [h.rem, ← h.len]; exact hlt
    have hds := List.getElem?_eq_getElem hlt'
    rcases h.steps t _ _ hv hds with ⟨_, e⟩ | ⟨e0, B, Dk, o, cap, e, hst⟩
    · cases e
    · cases e
      cases hd : a.2[t] with
      | nil => exact absurd hd e0
      | cons d ds =>
        rw [hd] at hst hds
        have hgo : (chainM n act).go a t = (((act a.1 d).1, if (act a.1 d).2 = true then a.2.set t ds else a.2), (act a.1 d).2) := by simp [chainM, hds]
        rw [hgo]
        obtain ⟨v0, hv0, hd0⟩ := hst.at_ 0 d rfl
        obtain ⟨f0, c0, rfl, hf0⟩ := S.dval hd0
        have HC := S.act_ h.dinv hd0 (fun k hk => .inr hk)
        have hb0 := hst.blk.at (o := 0) rfl
        cases hb : (act a.1 d).2
        · rw [hb] at HC
          refine (chain_blocked hb0 (by simp) hv0 hf0 HC).mono ?_
          rintro e w1 ⟨rfl, ho, hdi⟩
          refine ⟨_, rfl, ho.mono fun k _ hk hm => hk (.inl hm), C, h.apart, fun k hk => Nat.lt_of_lt_of_le (h.clt k hk) ho.size, fun k hk => Nat.lt_of_lt_of_le (h.mlt k hk) ho.size, hdi, h.len, h.rem, ?_⟩
          exact fun t v ds hv hds => (h.steps t v ds hv hds).frame S (fun _ h => h) (ho.mono fun k _ hk hc => hk (.inr hc))
        · rw [hb] at HC
          refine (chain_moved hb0 (by simp) hst.le hv0 hf0 HC (fun w1 h1 => only_cell hb0 h1.1 (fun hk => hk (.inr hst.cb)))).mono ?_
          rintro e w' ⟨w1, ad, c', rfl, ⟨ho, hdi⟩, rfl, hc', had⟩
          have hoa : Only (fun k => ¬ (M k ∨ C k)) w (w1.alloc (.cells #[.slice ad (ds.length + 1 - 1) c'] 53)) := ho.alloc _
          have hs := ho.size
          have hsz : (w1.alloc (.cells #[.slice ad (ds.length + 1 - 1) c'] 53)).heap.size = w1.heap.size + 1 := by simp
          have hfr : ∀ {v es}, StepIs isD C w v es → StepIs isD (fun k => C k ∨ k = w1.heap.size) (w1.alloc (.cells #[.slice ad (ds.length + 1 - 1) c'] 53)) v es := fun hx => hx.frame S (fun _ h => .inl h) (ho.alloc _ |>.mono fun k _ hk hc => hk (.inr hc))
          refine ⟨_, rfl, hoa.mono fun k _ hk hm => hk (.inl hm), fun k => C k ∨ k = w1.heap.size, ?_, ?_, ?_, ?_, ?_, ?_, ?_⟩
          · rintro k (hk | rfl) hm
            · exact h.apart k hk hm
            · have := h.mlt _ hm; omega
          · rintro k (hk | rfl)
            · have := h.clt k hk; simp only [List.length_cons]; omega
            · simp
          · intro k hk
            have := h.mlt k hk; simp only [List.length_cons]; omega
          · refine S.frame hdi (fun k hk => hk.imp id .inl) (fun k hk => ?_) ((Only.refl _ _).alloc _)
            rcases hk with hk | hk | hk
            · exact .inl (.inl hk)
            · exact .inl (.inr hk)
            · exact .inr ⟨by omega, by subst hk; simp⟩
          · simp [h.len]
          · simp [h.rem]
          · intro u v es hu hes
            simp only [if_true] at hu hes
            by_cases hut : t = u
            · subst hut
              rw [List.getElem?_set_self hlt] at hu
              rw [List.getElem?_set_self hlt'] at hes
              cases hu
              cases hes
              cases ds with
              | nil => exact .inl ⟨rfl, rfl⟩
              | cons d1 r =>
                obtain rfl := had (by simp)
                refine .inr ⟨by simp, w1.heap.size, Dk, o + 1, c', by simp [stepV], .inr rfl, .inl hst.cd, Blk.new (l := [.slice (some ⟨Dk, o + 1, none⟩) (r.length + 1) c']), by simpa using hc', fun i d2 hd2 => ?_⟩
                obtain ⟨v2, hv2, hd2'⟩ := hst.at_ (i + 1) d2 (by simpa using hd2)
                refine ⟨v2, ?_, S.dframe hd2' (fun _ h => .inl h) (ho.alloc _ |>.mono fun k _ hk hc => hk (.inr hc))⟩
                rw [show o + 1 + i = o + (i + 1) by omega]
                exact only_cell hv2 hoa (fun hk => hk (.inr hst.cd))
            · rw [List.getElem?_set_ne hut] at hu hes
              exact hfr (h.steps u v es hu hes)

end
end Go.Proofs.Ytfgkickjjeamgaa
