/- Layer 6 (package sched): threads that are chains of deeds run as reckoned. -/
import Derived.Test.YtfgkickjjeamgaaChain6
namespace Go.Proofs.Ytfgkickjjeamgaa
open Go.RowKit

/-- Deeds over a world of theirs: what lies in blocks of N they neither need nor touch; what lies in blocks of K they don't touch, but may read. -/
structure Deeds {X D : Type} (K : Nat → Prop) (act : X → D → X × Bool) (ok : X → D → Prop) (dinv : (Nat → Prop) → X → World → Prop) (isD : D → Value → World → Prop) : Prop where
  frame : ∀ {N N' x w w'}, dinv N x w → (∀ k, N k → N' k) → (∀ k, N' k → N k ∨ (w.heap.size ≤ k ∧ k < w'.heap.size)) → Only N' w w' → dinv N' x w'
  dval : ∀ {d v w}, isD d v w → ∃ f c, v = fnV f c ∧ Enters f
  dframe : ∀ {d v w w'}, isD d v w → Only (fun k => ¬ K k) w w' → isD d v w'
  act_ : ∀ {N x d f c w}, ok x d → dinv N x w → isD d (fnV f c) w → Calls Try.prog f c w fun e w' => e = .returned (.bool (act x d).2) ∧ Only (fun k => ¬ N k ∧ ¬ K k) w w' ∧ dinv N (act x d).1 w'

section
variable {X D : Type}
/-- Threads that are what is left of chains. -/
def chainM (n : Nat) (act : X → D → X × Bool) : Mach (X × List (List D)) where
  n := n
  fin := fun s t => match s.2[t]? with
    | some (_ :: _) => false
    | _ => true
  go := fun s t => match s.2[t]? with
    | some (d :: ds) => (((act s.1 d).1, if (act s.1 d).2 = true then s.2.set t ds else s.2), (act s.1 d).2)
    | _ => (s, false)

structure StepAt (K : Nat → Prop) (isD : D → Value → World → Prop) (C : Nat → Prop) (w : World) (B Dk o cap : Nat) (ds : List D) : Prop where
  cb : C B ∨ K B
  cd : K Dk
  blk : Blk 53 w B [.slice (some ⟨Dk, o, none⟩) ds.length cap]
  le : ds.length ≤ cap
  at_ : ∀ (i : Nat) d, ds[i]? = some d → ∃ v, w.cell? ⟨Dk, o + i, none⟩ = some v ∧ isD d v w
/-- A step that does these deeds. -/
def StepIs (K : Nat → Prop) (isD : D → Value → World → Prop) (C : Nat → Prop) (w : World) (v : Value) (ds : List D) : Prop :=
  (ds = [] ∧ v = .nilFunc) ∨ (ds ≠ [] ∧ ∃ B Dk o cap, v = fnV 24 #[.pointer (some ⟨B, 0, none⟩)] ∧ StepAt K isD C w B Dk o cap ds)

structure ChainInv (n : Nat) (K : Nat → Prop) (J : X × List (List D) → Prop) (dinv : (Nat → Prop) → X → World → Prop) (isD : D → Value → World → Prop) (C M : Nat → Prop) (s : X × List (List D)) (vs : List Value) (w : World) : Prop where
  good : J s
  apart : ∀ k, C k → ¬ M k
  kapart : ∀ k, K k → ¬ M k
  clt : ∀ k, C k → k < w.heap.size
  klt : ∀ k, K k → k < w.heap.size
  mlt : ∀ k, M k → k < w.heap.size
  dinv : dinv (fun k => M k ∨ C k) s.1 w
  len : vs.length = n
  rem : s.2.length = n
  steps : ∀ (t : Nat) v ds, vs[t]? = some v → s.2[t]? = some ds → StepIs K isD C w v ds
def chainInv (n : Nat) (K : Nat → Prop) (J : X × List (List D) → Prop) (dinv : (Nat → Prop) → X → World → Prop) (isD : D → Value → World → Prop) (M : Nat → Prop) (s : X × List (List D)) (vs : List Value) (w : World) : Prop := ∃ C, ChainInv n K J dinv isD C M s vs w

variable {K : Nat → Prop} {act : X → D → X × Bool} {ok : X → D → Prop} {dinv : (Nat → Prop) → X → World → Prop} {isD : D → Value → World → Prop}
theorem only_cell {S : Nat → Prop} {w w' : World} {b o : Nat} {v : Value} (h : w.cell? ⟨b, o, none⟩ = some v) (ho : Only S w w') (hb : ¬ S b) : w'.cell? ⟨b, o, none⟩ = some v :=
  (World.cell?_of_block (ho.block b (World.block_lt_of_cell? w ⟨b, o, none⟩ h) hb)).trans h
theorem StepIs.frame (S : Deeds K act ok dinv isD) {C C' : Nat → Prop} {w w' : World} {v : Value} {ds : List D} (h : StepIs K isD C w v ds) (hC : ∀ k, C k → C' k) (ho : Only (fun k => ¬ C k ∧ ¬ K k) w w') : StepIs K isD C' w' v ds := by
  rcases h with h | ⟨h0, B, Dk, o, cap, h1, h2⟩
  · exact .inl h
  · refine .inr ⟨h0, B, Dk, o, cap, h1, h2.cb.imp (hC _) id, h2.cd, h2.blk.only ho (fun h => h2.cb.elim h.1 h.2), h2.le, fun i d hd => ?_⟩
    obtain ⟨v, hv, hi⟩ := h2.at_ i d hd
    exact ⟨v, only_cell hv ho (fun h => h.2 h2.cd), S.dframe hi (ho.mono fun _ _ h => h.2)⟩
theorem enters_chain : Enters 24 := fun _ _ => by kernel_rfl

theorem chain_sys (S : Deeds K act ok dinv isD) (n : Nat) (J : X × List (List D) → Prop) (hok : ∀ s (t : Nat) d ds, J s → s.2[t]? = some (d :: ds) → ok s.1 d)
    (hJ : ∀ s (t : Nat) d ds, J s → s.2[t]? = some (d :: ds) → J ((act s.1 d).1, if (act s.1 d).2 = true then s.2.set t ds else s.2)) : Sys (chainM n act) K (chainInv n K J dinv isD) where
  len := fun ⟨_, h⟩ => h.len
  val := fun {M a vs w} ⟨C, h⟩ t v hv => by
    have hlt : t < vs.length := (List.getElem?_eq_some_iff.1 hv).1
    have hlt' : t < a.2.length := by rw [h.rem, ← h.len]; exact hlt
    have hds := List.getElem?_eq_getElem hlt'
    rcases h.steps t v _ hv hds with ⟨e, rfl⟩ | ⟨e, B, Dk, o, cap, rfl, _⟩
    · exact .inl ⟨rfl, by simp [chainM, hds, e]⟩
    · refine .inr ⟨_, _, rfl, enters_chain, ?_⟩
      show (match a.2[t]? with | some (_ :: _) => false | _ => true) = false
      rw [hds]
      cases hd : a.2[t] with
      | nil => exact absurd hd e
      | cons d ds => rfl
  frame := fun {M M' a vs w w'} ⟨C, h⟩ h1 h2 ho => by
    have hC : ∀ k, C k → ¬ M' k := fun k hk hm => by
      rcases h2 k hm with h3 | h3
      · exact h.apart k hk h3
      · have := h.clt k hk; omega
    have hK : ∀ k, K k → ¬ M' k := fun k hk hm => by
      rcases h2 k hm with h3 | h3
      · exact h.kapart k hk h3
      · have := h.klt k hk; omega
    refine ⟨C, h.good, hC, hK, fun k hk => Nat.lt_of_lt_of_le (h.clt k hk) ho.size, fun k hk => Nat.lt_of_lt_of_le (h.klt k hk) ho.size, fun k hk => ?_, ?_, h.len, h.rem, fun t v ds hv hds => (h.steps t v ds hv hds).frame S (fun _ h => h) (ho.mono fun k _ hk => ⟨fun hc => hC k hc hk, fun hc => hK k hc hk⟩)⟩
    · rcases h2 k hk with h3 | h3
      · exact Nat.lt_of_lt_of_le (h.mlt k h3) ho.size
      · exact h3.2
    · exact S.frame h.dinv (fun k hk => hk.imp (h1 k) id) (fun k hk => by
        rcases hk with hk | hk
        · exact (h2 k hk).imp .inl id
        · exact .inl (.inr hk)) (ho.mono fun k _ hk => .inl hk)
  step := fun {M a vs w} ⟨C, h⟩ t f c hv => by
    have hlt : t < vs.length := (List.getElem?_eq_some_iff.1 hv).1
    have hlt' : t < a.2.length := by rw [h.rem, ← h.len]; exact hlt
    have hds := List.getElem?_eq_getElem hlt'
    rcases h.steps t _ _ hv hds with ⟨_, e⟩ | ⟨e0, B, Dk, o, cap, e, hst⟩
    · cases e
    · cases e
      cases hd : a.2[t] with
      | nil => exact absurd hd e0
      | cons d ds =>
        rw [hd] at hst hds
        have hgo : (chainM n act).go a t = (((act a.1 d).1, if (act a.1 d).2 = true then a.2.set t ds else a.2), (act a.1 d).2) := by simp [chainM, hds]
        rw [hgo]
        obtain ⟨v0, hv0, hd0⟩ := hst.at_ 0 d rfl
        obtain ⟨f0, c0, rfl, hf0⟩ := S.dval hd0
        have HC := S.act_ (hok a t d ds h.good hds) h.dinv hd0
        have hb0 := hst.blk.at (o := 0) rfl
        have hgood := hJ a t d ds h.good hds
        cases hb : (act a.1 d).2
        · rw [hb] at HC hgood
          refine (chain_blocked hb0 (by simp) hv0 hf0 HC).mono ?_
          rintro e w1 ⟨rfl, ho, hdi⟩
          refine ⟨_, rfl, ho.mono fun k _ hk => ⟨fun hm => hk.1 (.inl hm), hk.2⟩, C, hgood, h.apart, h.kapart, fun k hk => Nat.lt_of_lt_of_le (h.clt k hk) ho.size, fun k hk => Nat.lt_of_lt_of_le (h.klt k hk) ho.size, fun k hk => Nat.lt_of_lt_of_le (h.mlt k hk) ho.size, hdi, h.len, h.rem, ?_⟩
          exact fun t v ds hv hds => (h.steps t v ds hv hds).frame S (fun _ h => h) (ho.mono fun k _ hk => ⟨fun hc => hk.1 (.inr hc), hk.2⟩)
        · rw [hb] at HC hgood
          refine (chain_moved hb0 (by simp) hst.le hv0 hf0 HC (fun w1 h1 => only_cell hb0 h1.1 (fun hk => hst.cb.elim (fun hc => hk.1 (.inr hc)) hk.2))).mono ?_
          rintro e w' ⟨w1, ad, c', rfl, ⟨ho, hdi⟩, rfl, hc', had⟩
          have hoa : Only (fun k => ¬ (M k ∨ C k) ∧ ¬ K k) w (w1.alloc (.cells #[.slice ad (ds.length + 1 - 1) c'] 53)) := ho.alloc _
          have hs := ho.size
          have hfr : ∀ {v es}, StepIs K isD C w v es → StepIs K isD (fun k => C k ∨ k = w1.heap.size) (w1.alloc (.cells #[.slice ad (ds.length + 1 - 1) c'] 53)) v es := fun hx => hx.frame S (fun _ h => .inl h) (hoa.mono fun k _ hk => ⟨fun hc => hk.1 (.inr hc), hk.2⟩)
          have hsz : ∀ k, k < w.heap.size → k < (w1.alloc (.cells #[.slice ad ((d :: ds).length - 1) c'] 53)).heap.size := fun k hk => Nat.lt_of_lt_of_le hk hoa.size
          refine ⟨_, rfl, hoa.mono fun k _ hk => ⟨fun hm => hk.1 (.inl hm), hk.2⟩, fun k => C k ∨ k = w1.heap.size, hgood, ?_, h.kapart, ?_, fun k hk => hsz k (h.klt k hk), fun k hk => hsz k (h.mlt k hk), ?_, ?_, ?_, ?_⟩
          · rintro k (hk | rfl) hm
            · exact h.apart k hk hm
            · have := h.mlt _ hm; omega
          · rintro k (hk | rfl)
            · exact hsz k (h.clt k hk)
            · simp
          · refine S.frame hdi (fun k hk => hk.imp id .inl) (fun k hk => ?_) ((Only.refl _ _).alloc _)
            rcases hk with hk | hk | hk
            · exact .inl (.inl hk)
            · exact .inl (.inr hk)
            · exact .inr ⟨by omega, by subst hk; simp⟩
          · simp [h.len]
          · simp [h.rem]
          · intro u v es hu hes
            simp only [if_true] at hu hes
            by_cases hut : t = u
            · subst hut
              rw [List.getElem?_set_self hlt] at hu
              rw [List.getElem?_set_self hlt'] at hes
              cases hu
              cases hes
              cases ds with
              | nil => exact .inl ⟨rfl, rfl⟩
              | cons d1 r =>
                obtain rfl := had (by simp)
                refine .inr ⟨by simp, w1.heap.size, Dk, o + 1, c', by simp [stepV], .inl (.inr rfl), hst.cd, Blk.new (l := [.slice (some ⟨Dk, o + 1, none⟩) (r.length + 1) c']), by simpa using hc', fun i d2 hd2 => ?_⟩
                obtain ⟨v2, hv2, hd2'⟩ := hst.at_ (i + 1) d2 (by simpa using hd2)
                refine ⟨v2, ?_, S.dframe hd2' (hoa.mono fun k _ hk => hk.2)⟩
                rw [show o + 1 + i = o + (i + 1) by omega]
                exact only_cell hv2 hoa (fun hk => hk.2 hst.cd)
            · rw [List.getElem?_set_ne hut] at hu hes
              exact hfr (h.steps u v es hu hes)

end
end Go.Proofs.Ytfgkickjjeamgaa
