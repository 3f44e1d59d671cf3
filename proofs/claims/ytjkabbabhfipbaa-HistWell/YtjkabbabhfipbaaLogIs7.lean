/- Layer 7 (package hist): what a log is, in memory. -/
import Derived.Test.YtjkabbabhfipbaaPlace7
import Derived.Test.YtjkabbabhfipbaaRows7
namespace Go.Proofs.Ytjkabbabhfipbaa
open Go.RowKit

def callsV (L : List CallZ) : List Value := L.flatMap callV
theorem callsV_snoc (L : List CallZ) (c : CallZ) : callsV (L ++ [c]) = callsV L ++ callV c := by simp [callsV]
/-- How many calls of a thread there are. -/
def cntZ (L : List CallZ) (x : Int) : Nat := L.countP (fun c => c.th == x)
theorem cntZ_snoc (L : List CallZ) (c : CallZ) : cntZ (L ++ [c]) = upF (cntZ L) c.th := by
  funext x
  unfold cntZ upF
  rw [List.countP_append]
  by_cases e : x = c.th
  · subst e; simp
  · have : ¬ c.th = x := fun h => e h.symm
    simp [e, this]
theorem cntZ_le (L : List CallZ) (x : Int) : cntZ L x ≤ L.length := List.countP_le_length

/-- A log lies there. -/
structure LogIs (w : World) (base Bl : Nat) (L : List CallZ) (now : Nat) (cv mv : Value) : Prop where
  blk : Blk 59 w Bl [cv, mv, .int .i64 now]
  row : w.ownsRow base 42 15 cv L.length (callsV L)
  beg : BeganIs w mv L.length (cntZ L)
/-- Its blocks. -/
def LogBlk (Bl : Nat) (cv mv : Value) (k : Nat) : Prop := k = Bl ∨ cv.ownBlock = some k ∨ mv = .map (some k)
/-- Its values are what they were, or lie in new blocks. -/
def LogNew (n : Nat) (cv mv cv' mv' : Value) : Prop := (cv'.ownBlock = cv.ownBlock ∨ ∀ g, cv'.ownBlock = some g → n ≤ g) ∧ (mv' = mv ∨ ∃ b, mv' = .map (some b) ∧ n ≤ b)
theorem LogNew.refl (n : Nat) (cv mv : Value) : LogNew n cv mv cv mv := ⟨.inl rfl, .inl rfl⟩
theorem LogNew.blk {n Bl : Nat} {cv mv cv' mv' : Value} (h : LogNew n cv mv cv' mv') {k : Nat} (hk : LogBlk Bl cv' mv' k) : LogBlk Bl cv mv k ∨ n ≤ k := by
  rcases hk with h1 | h1 | h1
  · exact .inl (.inl h1)
  · rcases h.1 with h2 | h2
    · exact .inl (.inr (.inl (h2 ▸ h1)))
    · exact .inr (h2 k h1)
  · rcases h.2 with h2 | ⟨b, h2, h3⟩
    · exact .inl (.inr (.inr (h2 ▸ h1)))
    · rw [h2] at h1; cases h1; exact .inr h3
theorem LogNew.trans {n m : Nat} {cv mv cv' mv' cv'' mv'' : Value} (h : LogNew n cv mv cv' mv') (h' : LogNew m cv' mv' cv'' mv'') (hnm : n ≤ m) : LogNew n cv mv cv'' mv'' := by
  refine ⟨?_, ?_⟩
  · rcases h'.1 with h2 | h2
    · rw [h2]; exact h.1
    · exact .inr fun g hg => Nat.le_trans hnm (h2 g hg)
  · rcases h'.2 with h2 | ⟨b, h2, h3⟩
    · rw [h2]; exact h.2
    · exact .inr ⟨b, h2, Nat.le_trans hnm h3⟩
theorem LogIs.lt {w : World} {base Bl now : Nat} {L : List CallZ} {cv mv : Value} (h : LogIs w base Bl L now cv mv) {k : Nat} (hk : LogBlk Bl cv mv k) : k < w.heap.size := by
  rcases hk with rfl | h1 | h1
  · exact h.blk.lt
  · exact (h.row.lt k h1).2
  · exact h.beg.lt h1
theorem LogIs.only {w w' : World} {base Bl now : Nat} {L : List CallZ} {cv mv : Value} {S : Nat → Prop} (h : LogIs w base Bl L now cv mv) (ho : Only S w w') (hS : ∀ k, LogBlk Bl cv mv k → ¬ S k) : LogIs w' base Bl L now cv mv :=
  ⟨h.blk.only ho (hS Bl (.inl rfl)), own_only h.row ho (fun k hk => hS k (.inr (.inl hk))), h.beg.only ho (fun b hb => hS b (.inr (.inr hb)))⟩
theorem LogIs.below {w w' : World} {base Bl now : Nat} {L : List CallZ} {cv mv : Value} (h : LogIs w base Bl L now cv mv) (ho : Below w.heap.size w w') : LogIs w' base Bl L now cv mv :=
  h.only (Only.of_below ho (fun k => w.heap.size ≤ k)) (fun _ hk => Nat.not_le.2 (h.lt hk))
theorem LogIs.drewN {w : World} {base Bl now : Nat} {L : List CallZ} {cv mv : Value} (h : LogIs w base Bl L now cv mv) (n : Nat) : LogIs (w.drewN n) base Bl L now cv mv := h.only ((Only.refl (fun _ => False) w).drewN n) (fun _ _ => id)
theorem LogIs.new (w : World) (base : Nat) : LogIs (w.alloc (.cells #[.slice none 0 0, .map none, .int .i64 0] 59)) base w.heap.size [] 0 (.slice none 0 0) (.map none) :=
  ⟨Blk.new (l := [.slice none 0 0, .map none, .int .i64 0]), World.ownsRow_nil _ _ _ _, .inl ⟨rfl, fun _ => rfl⟩⟩
/-- Its block is none of the others'. -/
theorem LogIs.apart {w : World} {base Bl now : Nat} {L : List CallZ} {cv mv : Value} (h : LogIs w base Bl L now cv mv) : (∀ g, cv.ownBlock = some g → Bl ≠ g) ∧ (∀ b, mv = .map (some b) → Bl ≠ b) ∧ ∀ g b, cv.ownBlock = some g → mv = .map (some b) → g ≠ b := by
  refine ⟨fun g hg => blk_apart h.blk h.row hg (by decide), fun b hb => ?_, fun g b hg hb => ?_⟩
  · rcases h.beg with ⟨h1, _⟩ | ⟨b', M, h1, hM, _⟩
    · rw [hb] at h1; cases h1
    · rw [hb] at h1; cases h1; exact fun e => hM.ne_blk h.blk e.symm
  · rcases h.beg with ⟨h1, _⟩ | ⟨b', M, h1, hM, _⟩
    · rw [hb] at h1; cases h1
    · rw [hb] at h1; cases h1
      obtain ⟨l, cap, _, _, hB, _⟩ := own_heap h.row hg
      exact fun e => hM.ne_blk hB e.symm
theorem log_moment' {Bl : Nat} {now : Nat} {cv mv : Value} (hnow : now ≤ 1000000) {w : World} (h : Blk 59 w Bl [cv, mv, .int .i64 now]) :
    Calls Try.prog 21 #[.pointer (some ⟨Bl, 0, none⟩)] w fun e w' => e = .returned (.int .i64 ((now : Int) + 1)) ∧ Blk 59 w' Bl [cv, mv, .int .i64 ((now + 1 : Nat) : Int)] ∧ Only (· = Bl) w w' := by
  refine (log_moment hnow h).mono ?_
  rintro e w' ⟨rfl, rfl⟩
  refine ⟨rfl, (h.alloc _).set 2 _, ((Only.refl (· = Bl) w).alloc _).setCell (p := ⟨Bl, 2, none⟩) (.inl rfl) _⟩

/-- The call that begins. -/
def beganZ (L : List CallZ) (now : Nat) (th : Int) (o : OpZ) : CallZ := ⟨th, (cntZ L th : Nat), o, default, ((now + 1 : Nat) : Int), 0⟩
structure BeginTo (base Bl : Nat) (L : List CallZ) (now : Nat) (cv mv : Value) (th : Int) (o : OpZ) (w : World) (e : Ending) (w' : World) : Prop where
  told : e = .returned (.int .i64 ((L.length + 1 : Nat) : Int))
  ex : ∃ cv' mv', LogIs w' base Bl (L ++ [beganZ L now th o]) (now + 1) cv' mv' ∧ LogNew w.heap.size cv mv cv' mv'
  only : Only (LogBlk Bl cv mv) w w'

/-- On the way: the place and the moment are known. -/
structure BMid (w0 w : World) (base Bl X : Nat) (L : List CallZ) (now : Nat) (cv mv mv' : Value) (n : Nat) (f : Int → Nat) (o : OpZ) : Prop where
  blk : Blk 59 w Bl [cv, mv', .int .i64 now]
  row : w.ownsRow base 42 15 cv L.length (callsV L)
  beg : BeganIs w mv' n f
  box : Blk 31 w X (opV o)
  only : Only (LogBlk Bl cv mv) w0 w
  new : mv' = mv ∨ ∃ b, mv' = .map (some b) ∧ w0.heap.size ≤ b
  hx : w0.heap.size ≤ X
theorem BMid.start {w : World} {base Bl now : Nat} {L : List CallZ} {cv mv : Value} (h : LogIs w base Bl L now cv mv) (o : OpZ) : BMid w (w.alloc (.cells (opV o).toArray 31)).drew base Bl w.heap.size L now cv mv mv L.length (cntZ L) o := by
  have ho : Only (fun _ => False) w (w.alloc (.cells (opV o).toArray 31)).drew := ((Only.refl _ w).alloc _).drewN 1
  have h1 := h.only ho (fun _ _ => id)
  exact ⟨h1.blk, h1.row, h1.beg, Blk.new (l := opV o), ho.mono (fun _ _ h => h.elim), .inl rfl, Nat.le_refl _⟩
theorem BMid.xne {w0 w : World} {base Bl X now now' n : Nat} {L : List CallZ} {cv mv mv' : Value} {f : Int → Nat} {o : OpZ} (h : BMid w0 w base Bl X L now' cv mv mv' n f o) (h0 : LogIs w0 base Bl L now cv mv) : X ≠ Bl ∧ (∀ g, cv.ownBlock = some g → X ≠ g) := by
  refine ⟨fun e => ?_, fun g hg e => ?_⟩
  · have := h0.blk.lt; have := h.hx; omega
  · have := (h0.row.lt g hg).2; have := h.hx; omega
theorem BMid.place {w0 w w' : World} {base Bl X now : Nat} {L : List CallZ} {cv mv : Value} {o : OpZ} {th : Int} {e : Ending} (h : BMid w0 w base Bl X L now cv mv mv L.length (cntZ L) o) (h0 : LogIs w0 base Bl L now cv mv) (hp : PlaceTo Bl cv mv L.length (cntZ L) now th w e w') :
    ∃ mv', BMid w0 w' base Bl X L now cv mv mv' (L.length + 1) (upF (cntZ L) th) o := by
  obtain ⟨_, ⟨mv', hb, hg, hn⟩, ho⟩ := hp
  obtain ⟨hx1, hx2⟩ := h.xne h0
  refine ⟨mv', hb, own_only h.row ho (fun k hk => ?_), hg, h.box.only ho ?_, h.only.step ho ?_, ?_, h.hx⟩
  · rintro (e | e)
    · exact h0.apart.1 k hk e.symm
    · exact h0.apart.2.2 k k hk e rfl
  · rintro (e | e)
    · exact hx1 e
    · have := h0.lt (.inr (.inr e)); have := h.hx; omega
  · rintro i _ (e | e)
    · exact .inl e
    · exact .inr (.inr e)
  · rcases hn with hn | ⟨b, hn, hb⟩
    · exact .inl hn
    · exact .inr ⟨b, hn, Nat.le_trans h.only.size hb⟩
theorem BMid.moment {w0 w w' : World} {base Bl X now n : Nat} {L : List CallZ} {cv mv mv' : Value} {f : Int → Nat} {o : OpZ} (h : BMid w0 w base Bl X L now cv mv mv' n f o) (h0 : LogIs w0 base Bl L now cv mv) (hb : Blk 59 w' Bl [cv, mv', .int .i64 ((now + 1 : Nat) : Int)]) (ho : Only (· = Bl) w w') :
    BMid w0 w' base Bl X L (now + 1) cv mv mv' n f o := by
  obtain ⟨hx1, hx2⟩ := h.xne h0
  refine ⟨hb, own_only h.row ho (fun k hk e => h0.apart.1 k hk e.symm), h.beg.only ho ?_, h.box.only ho hx1, h.only.step ho (fun i _ e => .inl e), h.new, h.hx⟩
  rintro b hm rfl
  rcases h.new with e | ⟨b', e, hle⟩
  · exact h0.apart.2.1 b (e ▸ hm) rfl
  · rw [hm] at e; cases e; have := h0.blk.lt; omega
/-- The worlds behind the append. -/
theorem BMid.done {w0 w4 w5 : World} {base Bl X now g' cap' : Nat} {L : List CallZ} {cv mv mv' : Value} {o : OpZ} {th : Int} {ob : Obj} (h : BMid w0 w4 base Bl X L (now + 1) cv mv mv' (L.length + 1) (upF (cntZ L) th) o) (h0 : LogIs w0 base Bl L now cv mv)
    (hgrow : (w4.alloc ob).grownBy w5 cv.ownBlock) (hlie : cv.ownBlock = some g' ∨ g' = w4.heap.size + 1)
    (hown : w5.ownsRow base 42 15 (.slice (some ⟨g', 0, none⟩) (L.length + 1) cap') (L.length + 1) (callsV L ++ callV (beganZ L now th o))) :
    Blk 59 w5 Bl [cv, mv', .int .i64 ((now + 1 : Nat) : Int)] ∧ Blk 31 w5 X (opV o) ∧ ((Blk 31 (w5.setCell ⟨Bl, 0, none⟩ (.slice (some ⟨g', 0, none⟩) (L.length + 1) cap')) X (opV o)) ∧
    LogIs (w5.setCell ⟨Bl, 0, none⟩ (.slice (some ⟨g', 0, none⟩) (L.length + 1) cap')) base Bl (L ++ [beganZ L now th o]) (now + 1) (.slice (some ⟨g', 0, none⟩) (L.length + 1) cap') mv' ∧ LogNew w0.heap.size cv mv (.slice (some ⟨g', 0, none⟩) (L.length + 1) cap') mv' ∧
    Only (LogBlk Bl cv mv) w0 (w5.setCell ⟨Bl, 0, none⟩ (.slice (some ⟨g', 0, none⟩) (L.length + 1) cap'))) := by
  obtain ⟨hx1, hx2⟩ := h.xne h0
  have hog := grown_only hgrow
  have b5 : Blk 59 w5 Bl [cv, mv', .int .i64 ((now + 1 : Nat) : Int)] := (h.blk.alloc ob).only hog (fun e => h0.apart.1 _ e rfl)
  have x5 : Blk 31 w5 X (opV o) := (h.box.alloc ob).only hog (fun e => hx2 _ e rfl)
  have o4 : Only (fun _ => False) w4 (w4.alloc ob) := (Only.refl _ w4).alloc ob
  have hmvr : ∀ b, mv' = .map (some b) → cv.ownBlock ≠ some b ∧ Bl ≠ b := fun b hb => by
    rcases h.new with e | ⟨b', e, hle⟩
    · exact ⟨fun hc => h0.apart.2.2 b b hc (e ▸ hb) rfl, h0.apart.2.1 b (e ▸ hb)⟩
    · rw [hb] at e; cases e
      exact ⟨fun hc => by have := (h0.row.lt b hc).2; omega, fun e => by have := h0.blk.lt; omega⟩
  have g5 : BeganIs w5 mv' (L.length + 1) (upF (cntZ L) th) := (h.beg.only o4 (fun _ _ => id)).only hog (fun b hb => (hmvr b hb).1)
  have o6 : Only (· = Bl) w5 (w5.setCell ⟨Bl, 0, none⟩ (.slice (some ⟨g', 0, none⟩) (L.length + 1) cap')) := (Only.refl (· = Bl) w5).setCell (p := ⟨Bl, 0, none⟩) (.inl rfl) _
  have hne : Bl ≠ g' := blk_apart b5 hown rfl (by decide)
  refine ⟨b5, x5, x5.only o6 hx1, ⟨b5.set 0 _, ?_, ?_⟩, ⟨?_, h.new⟩, ?_⟩
  · have := own_only hown o6 (fun k hk e => by simp [Value.ownBlock] at hk; omega)
    rw [callsV_snoc, List.length_append]
    exact this
  · have := g5.only o6 (fun b hb e => (hmvr b hb).2 e.symm)
    rw [cntZ_snoc, List.length_append]
    exact this
  · rcases hlie with e | e
    · exact .inl e.symm
    · refine .inr fun g hg => ?_
      simp [Value.ownBlock] at hg
      have := h.only.size
      omega
  · exact ((h.only.trans (o4.mono (fun _ _ h => h.elim))).trans (hog.mono fun k _ h => .inr (.inl h))).trans (o6.mono fun k _ h => .inl h)

end Go.Proofs.Ytjkabbabhfipbaa
