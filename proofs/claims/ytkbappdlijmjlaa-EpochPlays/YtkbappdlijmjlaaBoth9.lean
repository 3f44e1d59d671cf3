/- EpochPlays: both epochs, side by side. -/
import Derived.Test.YtkbappdlijmjlaaRefEpC9
import Derived.Test.YtkbappdlijmjlaaRecs
namespace Go.Proofs.Ytkbappdlijmjlaa
open Go.RowKit

/-- A deed as it came in. -/
abbrev encE (p : Int × Int) : List Value := [.int .i64 p.1, .int .i64 p.2]
/-- Both, in blocks of their own, above N. -/
structure Both (w1 w : World) (B P X : Nat) (v u : Nat → Value) (x : Ep) (y : RE) : Prop where
  ep : EpIs w w1.heap.size B P v x
  re : ReIs w w1.heap.size X u y
  apart : ∀ k, EpBlk B P v k → ReBlk X u k → False
  below : Below w1.heap.size w1 w
  lows : w1.heap.size ≤ B ∧ w1.heap.size ≤ P ∧ w1.heap.size ≤ X
section
variable {w1 w w' : World} {B P X : Nat} {v u v' u' : Nat → Value} {x x' : Ep} {y y' : RE}
theorem Both.epLow (h : Both w1 w B P X v u x y) {k : Nat} (hk : EpBlk B P v k) : w1.heap.size ≤ k := by
  rcases hk with rfl | rfl | hk
  · exact h.lows.1
  · exact h.lows.2.1
  · exact (h.ep.own.lt hk).1
theorem Both.reLow (h : Both w1 w B P X v u x y) {k : Nat} (hk : ReBlk X u k) : w1.heap.size ≤ k := by
  rcases hk with rfl | hk
  · exact h.lows.2.2
  · exact (h.re.own.lt hk).1
theorem Both.keep (h : Both w1 w B P X v u x y) (hb : Below w.heap.size w w') : Both w1 w' B P X v u x y :=
  ⟨h.ep.below hb, h.re.below hb, h.apart, h.below.trans (hb.mono h.below.size), h.lows⟩
theorem Both.drewN (h : Both w1 w B P X v u x y) (n : Nat) : Both w1 (w.drewN n) B P X v u x y := h.keep (below_draws (Below.refl _ _) n)
theorem Both.turnEp (h : Both w1 w B P X v u x y) (h1 : EpIs w' w1.heap.size B P v' x') (hn : VNew w.heap.size v v') (ho : Only (EpBlk B P v) w w') : Both w1 w' B P X v' u x' y := by
  refine ⟨h1, h.re.only ho (fun k hk he => h.apart k he hk), fun k he hr => ?_, Only.below_step h.below.size h.below ho (fun i hi e => by have := h.epLow e; omega), h.lows⟩
  rcases he with e | e | e
  · exact h.apart k (.inl e) hr
  · exact h.apart k (.inr (.inl e)) hr
  · rcases hn k e with e | e
    · exact h.apart k (.inr (.inr e)) hr
    · have := h.re.lt hr; omega
theorem Both.turnRe (h : Both w1 w B P X v u x y) (h1 : ReIs w' w1.heap.size X u' y') (hn : VNew w.heap.size u u') (ho : Only (ReBlk X u) w w') : Both w1 w' B P X v u' x y' := by
  refine ⟨h.ep.only ho (fun k hk he => h.apart k hk he), h1, fun k he hr => ?_, Only.below_step h.below.size h.below ho (fun i hi e => by have := h.reLow e; omega), h.lows⟩
  rcases hr with e | e
  · exact h.apart k he (.inl e)
  · rcases hn k e with e | e
    · exact h.apart k he (.inr e)
    · have := h.ep.lt he; omega
end
theorem Own3.low {w : World} {lo lo' : Nat} {v : Nat → Value} {q : Nat → List Int} (h : Own3 w lo v q) (hl : lo' ≤ lo) : Own3 w lo' v q := ⟨fun j hj => own_low (h.own j hj) hl, h.sep⟩
/-- What the document's has, by the program's, and what waits. -/
def reOf (x : Ep) (W : List (Int × Nat)) : RE := ⟨x.now, upd (upd (pinsQ (x.pins.map pinZ)) 1 (W.map (·.1))) 2 (W.map fun p => (p.2 : Int))⟩
/-- Where the loop stands. -/
structure PSt (w1 w : World) (B P X : Nat) (v u : Nat → Value) (x : Ep) (W : List (Int × Nat)) (k : Nat) : Prop where
  both : Both w1 w B P X v u x (reOf x W)
  ag : Agree x W
  pl : x.pins.length ≤ 64
  wl : W.length ≤ k
  nl : x.now ≤ k
theorem pst_start {w1 w2 w3 : World} {B P X : Nat} {v u : Nat → Value} {n : Nat} (h1 : EpIs w2 w1.heap.size B P v ⟨0, List.replicate n none, fun _ => []⟩) (hB : w1.heap.size ≤ B ∧ w1.heap.size ≤ P) (b1 : Below w1.heap.size w1 w2) (h2 : ReIs w3 w2.heap.size X u ⟨0, upd (fun _ => []) 0 (List.replicate n (-1))⟩) (hX : w2.heap.size ≤ X) (b2 : Below w2.heap.size w2 w3) (hn : n ≤ 64) :
    PSt w1 w3 B P X v u ⟨0, List.replicate n none, fun _ => []⟩ [] 0 := by
  have hz := b1.size
  refine ⟨⟨h1.below b2, ⟨?_, ?_⟩, fun k he hr => ?_, b1.trans (b2.mono hz), ⟨hB.1, hB.2, by omega⟩⟩, Agree.start _, by simpa using hn, by simp, by simp⟩
  · exact h2.blk
  · have := h2.own.low hz
    have e : (upd (fun _ => []) 0 (List.replicate n (-1)) : Nat → List Int) = (reOf ⟨0, List.replicate n none, fun _ => []⟩ []).q := by
      funext j
      unfold reOf pinsQ
      match j with
      | 0 => simp [upd, pinZ]
      | 1 => simp [upd]
      | 2 => simp [upd]
      | j + 3 => simp [upd, q0]
    rw [e] at this
    exact this
  · have h3 := h1.lt he
    rcases hr with e | e
    · omega
    · have := (h2.own.lt e).1; omega
section
variable {w1 w w' : World} {B P X : Nat} {v u v' u' : Nat → Value} {x x' : Ep} {W : List (Int × Nat)} {k : Nat}
theorem reOf_pins (x : Ep) (W : List (Int × Nat)) (L : List (Option Nat)) : reOf ⟨x.now, L, x.q⟩ W = ⟨x.now, upd (reOf x W).q 0 (L.map pinZ)⟩ := by
  unfold reOf
  congr 1
  funext j
  match j with
  | 0 => simp [upd, pinsQ]
  | 1 => simp [upd]
  | 2 => simp [upd]
  | j + 3 => simp [upd, pinsQ]
theorem reOf_retire (x : Ep) (W : List (Int × Nat)) (y : Int) (q : Nat → List Int) : reOf ⟨x.now, x.pins, q⟩ (W ++ [(y, x.now)]) = ⟨x.now, upd (upd (reOf x W).q 1 ((reOf x W).q 1 ++ [y])) 2 ((reOf x W).q 2 ++ [(x.now : Int)])⟩ := by
  unfold reOf
  congr 1
  funext j
  match j with
  | 0 => simp [upd, pinsQ]
  | 1 => simp [upd]
  | 2 => simp [upd]
  | j + 3 => simp [upd, pinsQ]
theorem hasR_eq (x : Ep) (W : List (Int × Nat)) (t : Int) : hasR ((reOf x W).q 0) t = hasT x t := by
  unfold hasR hasT
  rw [show (reOf x W).q 0 = x.pins.map pinZ from rfl, List.length_map]
theorem refIs_of (x : Ep) (W : List (Int × Nat)) (t : Int) : refIs ((reOf x W).q 0) t = isPin x t := refIs_eq x t
theorem inP (k : Nat) (h : k = P) : EpBlk B P v k := .inr (.inl h)
theorem Both.pins (h : Both w1 w B P X v u x (reOf x W)) {L : List (Option Nat)} (h1 : EpIs w' w1.heap.size B P v ⟨x.now, L, x.q⟩) (ho : Only (· = P) w w') : Both w1 w' B P X v u ⟨x.now, L, x.q⟩ (reOf x W) :=
  h.turnEp h1 (VNew.refl _ _) (ho.mono fun j _ e => inP j e)
theorem PSt.pins {w5 w6 : World} {L : List (Option Nat)} (h : PSt w1 w B P X v u x W k) (h5 : Both w1 w5 B P X v u ⟨x.now, L, x.q⟩ (reOf x W)) (h6 : ReIs w6 w1.heap.size X u (reOf ⟨x.now, L, x.q⟩ W)) (ho : Only (ReBlk X u) w5 w6) (hL : L.length = x.pins.length) : PSt w1 w6 B P X v u ⟨x.now, L, x.q⟩ W (k + 1) :=
  ⟨h5.turnRe h6 (VNew.refl _ _) ho, h.ag.pins L, by have := h.pl; simp only; omega, by have := h.wl; omega, by have := h.nl; simp only; omega⟩
theorem PSt.pin {w5 w6 : World} {t : Int} (h : PSt w1 w B P X v u x W k) (h5 : Both w1 w5 B P X v u ⟨x.now, if hasT x t && !isPin x t then x.pins.set t.toNat (some x.now) else x.pins, x.q⟩ (reOf x W))
    (h6 : ReIs w6 w1.heap.size X u ⟨(reOf x W).now, if (hasR ((reOf x W).q 0) t && !refIs ((reOf x W).q 0) t) = true then upd (reOf x W).q 0 (((reOf x W).q 0).set t.toNat ((reOf x W).now : Int)) else (reOf x W).q⟩) (ho : Only (ReBlk X u) w5 w6) :
    ∃ x', PSt w1 w6 B P X v u x' W (k + 1) := by
  rw [hasR_eq, refIs_of] at h6
  cases hb : hasT x t && !isPin x t with
  | true =>
    rw [hb] at h5 h6
    refine ⟨_, h.pins h5 ?_ ho (by simp)⟩
    rw [reOf_pins]
    simp only [if_true, List.map_set]
    exact h6
  | false =>
    rw [hb] at h5 h6
    exact ⟨_, h.pins h5 h6 ho rfl⟩
theorem PSt.unpin {w5 w6 : World} {t : Int} (h : PSt w1 w B P X v u x W k) (h5 : Both w1 w5 B P X v u ⟨x.now, if isPin x t then x.pins.set t.toNat none else x.pins, x.q⟩ (reOf x W))
    (h6 : ReIs w6 w1.heap.size X u ⟨(reOf x W).now, if refIs ((reOf x W).q 0) t = true then upd (reOf x W).q 0 (((reOf x W).q 0).set t.toNat (-1)) else (reOf x W).q⟩) (ho : Only (ReBlk X u) w5 w6) :
    ∃ x', PSt w1 w6 B P X v u x' W (k + 1) := by
  rw [refIs_of] at h6
  cases hb : isPin x t with
  | true =>
    rw [hb] at h5 h6
    refine ⟨_, h.pins h5 ?_ ho (by simp)⟩
    rw [reOf_pins]
    simp only [if_true, List.map_set]
    exact h6
  | false =>
    rw [hb] at h5 h6
    exact ⟨_, h.pins h5 h6 ho rfl⟩
theorem PSt.retire {w6 : World} {y : Int} (h : PSt w1 w B P X v u x W k) (h5 : Both w1 w' B P X v' u ⟨x.now, x.pins, upd x.q (x.now % 3) (x.q (x.now % 3) ++ [y])⟩ (reOf x W))
    (h6 : ReIs w6 w1.heap.size X u' ⟨(reOf x W).now, upd (upd (reOf x W).q 1 ((reOf x W).q 1 ++ [y])) 2 ((reOf x W).q 2 ++ [((reOf x W).now : Int)])⟩) (hn : VNew w'.heap.size u u') (ho : Only (ReBlk X u) w' w6) :
    ∃ x' W', PSt w1 w6 B P X v' u' x' W' (k + 1) := by
  refine ⟨⟨x.now, x.pins, upd x.q (x.now % 3) (x.q (x.now % 3) ++ [y])⟩, W ++ [(y, x.now)], ⟨h5.turnRe ?_ hn ho, h.ag.retire y, h.pl, by have := h.wl; simp; omega, by have := h.nl; simp only; omega⟩⟩
  rw [reOf_retire]
  exact h6
theorem PSt.adv {w6 : World} (h : PSt w1 w B P X v u x W k) (h5 : Both w1 w' B P X v' u ⟨x.now + 1, x.pins, upd x.q ((x.now + 1) % 3) []⟩ (reOf x W))
    (h6 : ReIs w6 w1.heap.size X u' (reOf ⟨x.now + 1, x.pins, upd x.q ((x.now + 1) % 3) []⟩ (W.filter fun p => !oldZ (x.now + 1) p))) (hn : VNew w'.heap.size u u') (ho : Only (· = X) w' w6) :
    ∃ x' W', PSt w1 w6 B P X v' u' x' W' (k + 1) :=
  ⟨_, _, h5.turnRe h6 hn (ho.mono fun j _ e => .inl e), h.ag.adv, h.pl, by have := h.wl; have := List.length_filter_le (fun p => !oldZ (x.now + 1) p) W; omega, by have := h.nl; simp only; omega⟩
theorem PSt.keep (h : PSt w1 w B P X v u x W k) (hb : Below w.heap.size w w') : PSt w1 w' B P X v u x W k := ⟨h.both.keep hb, h.ag, h.pl, h.wl, h.nl⟩
theorem PSt.next (h : PSt w1 w B P X v u x W k) : PSt w1 w B P X v u x W (k + 1) := ⟨h.both, h.ag, h.pl, by have := h.wl; omega, by have := h.nl; omega⟩
theorem PSt.below (h : PSt w1 w B P X v u x W k) : Below w1.heap.size w1 w := h.both.below
end

end Go.Proofs.Ytkbappdlijmjlaa
