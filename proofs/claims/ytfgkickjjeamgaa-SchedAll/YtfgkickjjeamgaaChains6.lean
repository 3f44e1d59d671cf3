/- Layer 6: threads of instructions as steps (the statements' chains). -/
import Derived.Test.YtfgkickjjeamgaaInst6
import Derived.Test.YtfgkickjjeamgaaLaw6
import Derived.Deep.LoopGhost
namespace Go.Proofs.Ytfgkickjjeamgaa
open Go.RowKit

/-- Threads of instructions, in blocks of Q. -/
def ThrIn (Q : Nat → Prop) (W : World) (a : Option Addr) (T : List (List (Int × Int))) : Prop :=
  ∀ (t : Nat) l, T[t]? = some l → ∃ b off a' c', a = some ⟨b, off, none⟩ ∧ Q b ∧ W.cell? ⟨b, off + t, none⟩ = some (.slice a' l.length c') ∧
    ∀ (i : Nat) p, l[i]? = some p → ∃ b' off', a' = some ⟨b', off', none⟩ ∧ Q b' ∧ W.cell? ⟨b', off' + i * 2, none⟩ = some (numV p.1) ∧ W.cell? ⟨b', off' + i * 2 + 1, none⟩ = some (numV p.2)
theorem ThrIn.only {Q S : Nat → Prop} {W W' : World} {a : Option Addr} {T : List (List (Int × Int))} (h : ThrIn Q W a T) (ho : Only S W W') (hQ : ∀ k, Q k → ¬ S k) : ThrIn Q W' a T := fun t l hl => by
  obtain ⟨b, off, a', c', h1, h2, h3, h4⟩ := h t l hl
  refine ⟨b, off, a', c', h1, h2, only_cell h3 ho (hQ b h2), fun i p hp => ?_⟩
  obtain ⟨b', off', k1, k2, k3, k4⟩ := h4 i p hp
  exact ⟨b', off', k1, k2, only_cell k3 ho (hQ b' k2), only_cell k4 ho (hQ b' k2)⟩
def deedsOf (t : Nat) (l : List (Int × Int)) : List Ins := l.mapIdx fun i p => ⟨t, i, p.1, p.2⟩
theorem deedsOf_len (t : Nat) (l : List (Int × Int)) : (deedsOf t l).length = l.length := by simp [deedsOf]
theorem deedsOf_at {t : Nat} {l : List (Int × Int)} {i : Nat} {d : Ins} (h : (deedsOf t l)[i]? = some d) : ∃ p, l[i]? = some p ∧ d = ⟨t, i, p.1, p.2⟩ := by
  simp only [deedsOf, List.getElem?_mapIdx, Option.map_eq_some_iff] at h
  obtain ⟨p, h1, h2⟩ := h
  exact ⟨p, h1, h2.symm⟩

abbrev cloV (p0 p1 p2 p3 : Nat) : Value := fnV 18 #[.pointer (some ⟨p0, 0, none⟩), .pointer (some ⟨p1, 0, none⟩), .pointer (some ⟨p2, 0, none⟩), .pointer (some ⟨p3, 0, none⟩)]
/-- While a thread's functions are made. -/
structure InnerSt (w1 : World) (p0 p1 p3 Pi k : Nat) (o : Value) (vals : List Value) (wr : World) : Prop where
  box : Blk 3 wr Pi [numV k]
  row : wr.ownsRow w1.heap.size 24 1 o k vals
  each : ∀ j, j < k → ∃ p2, vals[j]? = some (cloV p0 p1 p2 p3) ∧ Blk 3 wr p2 [numV j] ∧ w1.heap.size ≤ p2 ∧ p2 ≠ Pi
  below : Below w1.heap.size w1 wr
  lo : w1.heap.size ≤ Pi
theorem InnerSt.drewN {w1 : World} {p0 p1 p3 Pi k : Nat} {o : Value} {vals : List Value} {wr : World} (h : InnerSt w1 p0 p1 p3 Pi k o vals wr) (n : Nat) : InnerSt w1 p0 p1 p3 Pi k o vals (wr.drewN n) :=
  have ho : Only (fun _ => False) wr (wr.drewN n) := (Only.refl _ wr).drewN n
  ⟨h.box.drewN n, own_only h.row ho (fun _ _ => id), fun j hj => by
    obtain ⟨p2, h1, h2, h3⟩ := h.each j hj
    exact ⟨p2, h1, h2.drewN n, h3⟩, ⟨h.below.os, h.below.tape, h.below.output, h.below.size, h.below.block⟩, h.lo⟩
theorem InnerSt.more {w1 : World} {p0 p1 p3 Pi k : Nat} {o o' : Value} {vals : List Value} {wr w2 : World} {ob : Obj} (h : InnerSt w1 p0 p1 p3 Pi k o vals wr)
    (hown : w2.ownsRow w1.heap.size 24 1 o' (k + 1) (vals ++ [cloV p0 p1 Pi p3])) (hgrow : (wr.alloc ob).grownBy w2 o.ownBlock) :
    InnerSt w1 p0 p1 p3 w2.heap.size (k + 1) o' (vals ++ [cloV p0 p1 Pi p3]) (w2.alloc (.cells #[.int .i64 ((k : Int) + 1)] 3)) := by
  have hog := grown_only hgrow
  have hlen : vals.length = k := by have := h.row.1; simpa using this
  have hb2 : Blk 3 w2 Pi [numV k] := (h.box.alloc ob).only hog (fun e => blk_apart h.box h.row e (by decide) rfl)
  refine ⟨?_, hown.alloc _, fun j hj => ?_, ?_, ?_⟩
  · have := Blk.new (t := 3) (W := w2) (l := [numV ((k : Int) + 1)])
    exact this
  · by_cases e : j = k
    · subst e
      refine ⟨Pi, by rw [List.getElem?_append_right (by omega), hlen]; simp, hb2.alloc _, h.lo, ?_⟩
      have := hb2.lt; omega
    · obtain ⟨p2, h1, h2, h3, h4⟩ := h.each j (by omega)
      have hp := ((h2.alloc ob).only hog (fun e => blk_apart h2 h.row e (by decide) rfl))
      refine ⟨p2, by rw [List.getElem?_append_left (by omega)]; exact h1, hp.alloc _, h3, ?_⟩
      have := hp.lt; omega
  · have hs := h.below.size
    have h1 : Below w1.heap.size w1 w2 := (h.below.alloc hs ob).grown hgrow (by simp; omega) (fun j e => own_base3 h.row j e)
    exact h1.alloc h1.size _
  · have hs := h.below.size
    have h2 := hog.size
    simp at h2
    omega

end Go.Proofs.Ytfgkickjjeamgaa
