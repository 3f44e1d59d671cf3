/- Layer 7 (package hist): what a log is, in memory. -/
import Derived.Test.YthngehpmoiojfaaPlace7
import Derived.Test.YthngehpmoiojfaaRows7
namespace Go.Proofs.Ythngehpmoiojfaa
open Go.RowKit

def callsV (L : List CallZ) : List Value := L.flatMap callV
theorem callsV_snoc (L : List CallZ) (c : CallZ) : callsV (L ++ [c]) = callsV L ++ callV c := by simp [callsV]
/-- How many calls of a thread there are. -/
def cntZ (L : List CallZ) (x : Int) : Nat := L.countP (fun c => c.th == x)
theorem cntZ_snoc (L : List CallZ) (c : CallZ) : cntZ (L ++ [c]) = upF (cntZ L) c.th := by
  funext x
  unfold cntZ upF
  rw [List.countP_append]
  by_cases e : x = c.th
  · subst e; simp
  · have : ¬ c.th = x := fun h => e h.symm
    simp [e, this]
theorem cntZ_le (L : List CallZ) (x : Int) : cntZ L x ≤ L.length := List.countP_le_length

/-- Its blocks. -/
def LogBlk (Bl : Nat) (cv mv : Value) (k : Nat) : Prop := k = Bl ∨ cv.ownBlock = some k ∨ mv = .map (some k)
/-- Its values are what they were, or lie in new blocks. -/
def LogNew (n : Nat) (cv mv cv' mv' : Value) : Prop := (cv'.ownBlock = cv.ownBlock ∨ ∀ g, cv'.ownBlock = some g → n ≤ g) ∧ (mv' = mv ∨ ∃ b, mv' = .map (some b) ∧ n ≤ b)
theorem LogNew.refl (n : Nat) (cv mv : Value) : LogNew n cv mv cv mv := ⟨.inl rfl, .inl rfl⟩
theorem LogNew.blk {n Bl : Nat} {cv mv cv' mv' : Value} (h : LogNew n cv mv cv' mv') {k : Nat} (hk : LogBlk Bl cv' mv' k) : LogBlk Bl cv mv k ∨ n ≤ k := by
  rcases hk with h1 | h1 | h1
  · exact .inl (.inl h1)
  · rcases h.1 with h2 | h2
    · exact .inl (.inr (.inl (h2 ▸ h1)))
    · exact .inr (h2 k h1)
  · rcases h.2 with h2 | ⟨b, h2, h3⟩
    · exact .inl (.inr (.inr (h2 ▸ h1)))
    · rw [h2] at h1; cases h1; exact .inr h3
theorem LogNew.trans {n m : Nat} {cv mv cv' mv' cv'' mv'' : Value} (h : LogNew n cv mv cv' mv') (h' : LogNew m cv' mv' cv'' mv'') (hnm : n ≤ m) : LogNew n cv mv cv'' mv'' := by
  refine ⟨?_, ?_⟩
  · rcases h'.1 with h2 | h2
    · rw [h2]; exact h.1
    · exact .inr fun g hg => Nat.le_trans hnm (h2 g hg)
  · rcases h'.2 with h2 | ⟨b, h2, h3⟩
    · rw [h2]; exact h.2
    · exact .inr ⟨b, h2, Nat.le_trans hnm h3⟩
/-- The call that begins. -/
def beganZ (L : List CallZ) (now : Nat) (th : Int) (o : OpZ) : CallZ := ⟨th, (cntZ L th : Nat), o, default, ((now + 1 : Nat) : Int), 0⟩
end Go.Proofs.Ythngehpmoiojfaa
