/- Layer 7: the document's log (bellmanref07), in memory. -/
import Derived.Test.YtjkabbabhfipbaaCallsIn7
namespace Go.Proofs.Ytjkabbabhfipbaa
open Go.RowKit

/-- The document's log lies there. -/
structure RefIs (w : World) (base Bx : Nat) (L : List CallZ) (now : Nat) (xv : Value) : Prop where
  blk : Blk 29 w Bx [xv, .int .i64 now]
  row : w.ownsRow base 42 15 xv L.length (callsV L)
def RefBlk (Bx : Nat) (xv : Value) (k : Nat) : Prop := k = Bx ∨ xv.ownBlock = some k
theorem RefIs.lt {w : World} {base Bx now : Nat} {L : List CallZ} {xv : Value} (h : RefIs w base Bx L now xv) {k : Nat} (hk : RefBlk Bx xv k) : k < w.heap.size := by
  rcases hk with rfl | h1
  · exact h.blk.lt
  · exact (h.row.lt k h1).2
theorem RefIs.only {w w' : World} {base Bx now : Nat} {L : List CallZ} {xv : Value} {S : Nat → Prop} (h : RefIs w base Bx L now xv) (ho : Only S w w') (hS : ∀ k, RefBlk Bx xv k → ¬ S k) : RefIs w' base Bx L now xv :=
  ⟨h.blk.only ho (hS Bx (.inl rfl)), own_only h.row ho (fun k hk => hS k (.inr hk))⟩
theorem RefIs.below {w w' : World} {base Bx now : Nat} {L : List CallZ} {xv : Value} (h : RefIs w base Bx L now xv) (ho : Below w.heap.size w w') : RefIs w' base Bx L now xv :=
  h.only (Only.of_below ho (fun k => w.heap.size ≤ k)) (fun _ hk => Nat.not_le.2 (h.lt hk))
theorem RefIs.drewN {w : World} {base Bx now : Nat} {L : List CallZ} {xv : Value} (h : RefIs w base Bx L now xv) (n : Nat) : RefIs (w.drewN n) base Bx L now xv := h.only ((Only.refl (fun _ => False) w).drewN n) (fun _ _ => id)
theorem RefIs.apart {w : World} {base Bx now : Nat} {L : List CallZ} {xv : Value} (h : RefIs w base Bx L now xv) {g : Nat} (hg : xv.ownBlock = some g) : Bx ≠ g := blk_apart h.blk h.row hg (by decide)
theorem RefIs.now {w : World} {base Bx now : Nat} {L : List CallZ} {xv : Value} (h : RefIs w base Bx L now xv) (m : Nat) : RefIs (w.setCell ⟨Bx, 1, none⟩ (.int .i64 (m : Nat))) base Bx L m xv :=
  ⟨h.blk.set 1 _, own_only h.row ((Only.refl (· = Bx) w).setCell (p := ⟨Bx, 1, none⟩) (.inl rfl) _) (fun _ hk e => h.apart hk e.symm)⟩
def RefNew (n : Nat) (xv xv' : Value) : Prop := xv'.ownBlock = xv.ownBlock ∨ ∀ g, xv'.ownBlock = some g → n ≤ g
structure RBeginTo (base Bx : Nat) (L : List CallZ) (now : Nat) (xv : Value) (th : Int) (o : OpZ) (w : World) (e : Ending) (w' : World) : Prop where
  told : e = .returned (.int .i64 ((L.length + 1 : Nat) : Int))
  ex : ∃ xv', RefIs w' base Bx (L ++ [beganZ L now th o]) (now + 1) xv' ∧ RefNew w.heap.size xv xv'
  only : Only (RefBlk Bx xv) w w'
/-- On the way. -/
structure RMid (w0 w : World) (base Bx X : Nat) (L : List CallZ) (now : Nat) (xv : Value) (o : OpZ) : Prop where
  log : RefIs w base Bx L now xv
  box : Blk 31 w X (opV o)
  only : Only (RefBlk Bx xv) w0 w
  x0 : w0.heap.size ≤ X
  lt : ∀ k, RefBlk Bx xv k → k < w0.heap.size
theorem RMid.start {w : World} {base Bx now : Nat} {L : List CallZ} {xv : Value} (h : RefIs w base Bx L now xv) (o : OpZ) : RMid w (w.alloc (.cells (opV o).toArray 31)) base Bx w.heap.size L now xv o := by
  have ho : Only (fun _ => False) w (w.alloc (.cells (opV o).toArray 31)) := (Only.refl _ w).alloc _
  exact ⟨h.only ho (fun _ _ => id), Blk.new (l := opV o), ho.mono (fun _ _ h => h.elim), Nat.le_refl _, fun _ hk => h.lt hk⟩
theorem RMid.now {w0 w : World} {base Bx X now : Nat} {L : List CallZ} {xv : Value} {o : OpZ} (h : RMid w0 w base Bx X L now xv o) (m : Nat) : RMid w0 (w.setCell ⟨Bx, 1, none⟩ (.int .i64 (m : Nat))) base Bx X L m xv o := by
  have ho : Only (· = Bx) w (w.setCell ⟨Bx, 1, none⟩ (.int .i64 (m : Nat))) := (Only.refl (· = Bx) w).setCell (p := ⟨Bx, 1, none⟩) (.inl rfl) _
  exact ⟨h.log.now m, h.box.only ho (fun e => by have := h.lt Bx (.inl rfl); have := h.x0; omega), h.only.step ho (fun _ _ e => .inl e), h.x0, h.lt⟩
theorem RMid.drew {w0 w : World} {base Bx X now : Nat} {L : List CallZ} {xv : Value} {o : OpZ} (h : RMid w0 w base Bx X L now xv o) : RMid w0 w.drew base Bx X L now xv o :=
  ⟨h.log.drewN 1, h.box, h.only.drewN 1, h.x0, h.lt⟩
theorem RMid.done {w0 w4 w5 : World} {base Bx X now g' cap' : Nat} {L : List CallZ} {xv : Value} {o : OpZ} {c : CallZ} {ob : Obj} (h : RMid w0 w4 base Bx X L now xv o) (hgrow : (w4.alloc ob).grownBy w5 xv.ownBlock) (hlie : xv.ownBlock = some g' ∨ g' = w4.heap.size + 1)
    (hown : w5.ownsRow base 42 15 (.slice (some ⟨g', 0, none⟩) (L.length + 1) cap') (L.length + 1) (callsV L ++ callV c)) :
    Blk 29 w5 Bx [xv, .int .i64 now] ∧ Blk 31 w5 X (opV o) ∧ (Blk 31 (w5.setCell ⟨Bx, 0, none⟩ (.slice (some ⟨g', 0, none⟩) (L.length + 1) cap')) X (opV o) ∧ Blk 29 (w5.setCell ⟨Bx, 0, none⟩ (.slice (some ⟨g', 0, none⟩) (L.length + 1) cap')) Bx [.slice (some ⟨g', 0, none⟩) (L.length + 1) cap', .int .i64 now] ∧
    RefIs (w5.setCell ⟨Bx, 0, none⟩ (.slice (some ⟨g', 0, none⟩) (L.length + 1) cap')) base Bx (L ++ [c]) now (.slice (some ⟨g', 0, none⟩) (L.length + 1) cap') ∧ RefNew w0.heap.size xv (.slice (some ⟨g', 0, none⟩) (L.length + 1) cap') ∧
    Only (RefBlk Bx xv) w0 (w5.setCell ⟨Bx, 0, none⟩ (.slice (some ⟨g', 0, none⟩) (L.length + 1) cap'))) := by
  have hx1 : X ≠ Bx := fun e => by have := h.lt Bx (.inl rfl); have := h.x0; omega
  have hx2 : ∀ g, xv.ownBlock = some g → X ≠ g := fun g hg e => by have := h.lt g (.inr hg); have := h.x0; omega
  have hog := grown_only hgrow
  have b5 : Blk 29 w5 Bx [xv, .int .i64 now] := (h.log.blk.alloc ob).only hog (fun e => h.log.apart e rfl)
  have x5 : Blk 31 w5 X (opV o) := (h.box.alloc ob).only hog (fun e => hx2 _ e rfl)
  have o4 : Only (fun _ => False) w4 (w4.alloc ob) := (Only.refl _ w4).alloc ob
  have o6 : Only (· = Bx) w5 (w5.setCell ⟨Bx, 0, none⟩ (.slice (some ⟨g', 0, none⟩) (L.length + 1) cap')) := (Only.refl (· = Bx) w5).setCell (p := ⟨Bx, 0, none⟩) (.inl rfl) _
  have hne : Bx ≠ g' := blk_apart b5 hown rfl (by decide)
  refine ⟨b5, x5, x5.only o6 hx1, b5.set 0 _, ⟨b5.set 0 _, ?_⟩, ?_, ?_⟩
  · have := own_only hown o6 (fun k hk e => by simp [Value.ownBlock] at hk; omega)
    rw [callsV_snoc, List.length_append]
    exact this
  · rcases hlie with e | e
    · exact .inl e.symm
    · refine .inr fun g hg => ?_
      simp [Value.ownBlock] at hg
      have := h.only.size
      omega
  · exact ((h.only.trans (o4.mono (fun _ _ h => h.elim))).trans (hog.mono fun k _ h => .inr h)).trans (o6.mono fun k _ h => .inl h)
theorem cntZ_take {L : List CallZ} {k : Nat} (hk : k < L.length) (th : Int) : cntZ (L.take (k + 1)) th = if L[k].th = th then cntZ (L.take k) th + 1 else cntZ (L.take k) th := by
  rw [List.take_succ_eq_append_getElem hk, cntZ_snoc]
  unfold upF
  by_cases e : L[k].th = th
  · simp [e]
  · have : ¬ th = L[k].th := fun h => e h.symm
    simp [e, this]

end Go.Proofs.Ytjkabbabhfipbaa
