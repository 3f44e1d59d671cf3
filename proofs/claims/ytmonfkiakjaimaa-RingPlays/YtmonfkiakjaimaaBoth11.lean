/- Layer 11: the ring and the document's, side by side. -/
import Derived.Test.YtmonfkiakjaimaaRingN11
import Derived.Test.YtmonfkiakjaimaaRefRgB11
import Derived.Test.YtmonfkiakjaimaaIntsRef
import Derived.Test.YtmonfkiakjaimaaLists
namespace Go.Proofs.Ytmonfkiakjaimaa
open Go.RowKit

/-- Both, in blocks of their own, above what lay there. -/
structure Both11 (w1 w : World) (B S X : Nat) (lv : Value) (x y : Rg) : Prop where
  rg : RgIs w B S x
  rr : RrIs w w1.heap.size X lv y
  apart : ∀ k, RgBlk B S k → RrBlk X lv k → False
  below : Below w1.heap.size w1 w
  lows : w1.heap.size ≤ B ∧ w1.heap.size ≤ S ∧ w1.heap.size ≤ X
section
variable {w1 w w' : World} {B S X k : Nat} {lv lv' : Value} {x x' y y' : Rg}
theorem Both11.rgLow (h : Both11 w1 w B S X lv x y) {k : Nat} (hk : RgBlk B S k) : w1.heap.size ≤ k := by
  rcases hk with rfl | rfl
  · exact h.lows.1
  · exact h.lows.2.1
theorem Both11.rrLow (h : Both11 w1 w B S X lv x y) {k : Nat} (hk : RrBlk X lv k) : w1.heap.size ≤ k := by
  rcases hk with rfl | hk
  · exact h.lows.2.2
  · exact (h.rr.row.lt k hk).1
theorem Both11.keep (h : Both11 w1 w B S X lv x y) (hb : Below w.heap.size w w') : Both11 w1 w' B S X lv x y :=
  ⟨h.rg.below hb, h.rr.below hb, h.apart, h.below.trans (hb.mono h.below.size), h.lows⟩
theorem Both11.drewN (h : Both11 w1 w B S X lv x y) (n : Nat) : Both11 w1 (w.drewN n) B S X lv x y := h.keep (below_draws (Below.refl _ _) n)
theorem Both11.turnRg (h : Both11 w1 w B S X lv x y) (h1 : RgIs w' B S x') (ho : Only (RgBlk B S) w w') : Both11 w1 w' B S X lv x' y :=
  ⟨h1, h.rr.only ho (fun k hk he => h.apart k he hk), h.apart, Only.below_step h.below.size h.below ho (fun i hi e => by have := h.rgLow e; omega), h.lows⟩
theorem Both11.turnRr (h : Both11 w1 w B S X lv x y) (h1 : RrIs w' w1.heap.size X lv' y') (hn : RrNew w.heap.size X lv lv') (ho : Only (RrBlk X lv) w w') : Both11 w1 w' B S X lv' x y' := by
  refine ⟨h.rg.only ho (fun k hk he => h.apart k hk he), h1, fun k he hr => ?_, Only.below_step h.below.size h.below ho (fun i hi e => by have := h.rrLow e; omega), h.lows⟩
  rcases hn k hr with e | e
  · exact h.apart k he e
  · have := h.rg.lt he; omega
/-- Where the loop stands. -/
structure PSt11 (w1 w : World) (B S X : Nat) (lv : Value) (x : Rg) (k : Nat) : Prop where
  both : Both11 w1 w B S X lv x x
  gk : x.g ≤ k
  dk : x.d ≤ k
theorem pst11_start {w2 w3 : World} {m : Nat} (h1 : RgIs w2 B S ⟨m, 0, 0, []⟩) (hB : w1.heap.size ≤ B) (hS : w1.heap.size ≤ S) (b1 : Below w1.heap.size w1 w2) (h2 : RrIs w3 w2.heap.size X (.slice none 0 0) ⟨m, 0, 0, []⟩) (hX : w2.heap.size ≤ X) (b2 : Below w2.heap.size w2 w3) :
    PSt11 w1 w3 B S X (.slice none 0 0) ⟨m, 0, 0, []⟩ 0 := by
  have hz := b1.size
  refine ⟨⟨h1.below b2, ⟨h2.blk, own_lower h2.row hz⟩, fun k he hr => ?_, b1.trans (b2.mono hz), ⟨hB, hS, by omega⟩⟩, by simp, by simp⟩
  have h3 := h1.lt he
  rcases hr with e | e
  · omega
  · simp [Value.ownBlock] at e
theorem PSt11.keep (h : PSt11 w1 w B S X lv x k) (hb : Below w.heap.size w w') : PSt11 w1 w' B S X lv x k := ⟨h.both.keep hb, h.gk, h.dk⟩
theorem PSt11.next (h : PSt11 w1 w B S X lv x k) : PSt11 w1 w B S X lv x (k + 1) := ⟨h.both, Nat.le_succ_of_le h.gk, Nat.le_succ_of_le h.dk⟩
theorem PSt11.put {v : Int} (h : PSt11 w1 w B S X lv x k) (hb : Both11 w1 w' B S X lv' (putZ x v) (putZ x v)) : PSt11 w1 w' B S X lv' (putZ x v) (k + 1) := ⟨hb, Nat.le_succ_of_le h.gk, Nat.le_succ_of_le h.dk⟩
theorem PSt11.drop (h : PSt11 w1 w B S X lv x k) (hb : Both11 w1 w' B S X lv' (dropZ x) (dropZ x)) : PSt11 w1 w' B S X lv' (dropZ x) (k + 1) := ⟨hb, Nat.le_succ_of_le h.gk, Nat.succ_le_succ h.dk⟩
theorem PSt11.got (h : PSt11 w1 w B S X lv x k) (hb : Both11 w1 w' B S X lv' (gotZ x) (gotZ x)) : PSt11 w1 w' B S X lv' (gotZ x) (k + 1) := ⟨hb, Nat.succ_le_succ h.gk, Nat.le_succ_of_le h.dk⟩
end

end Go.Proofs.Ytmonfkiakjaimaa
