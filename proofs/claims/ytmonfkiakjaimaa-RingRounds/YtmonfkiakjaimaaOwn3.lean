/- Three rows of numbers of one's own, apart from each other. -/
import Derived.Test.YtmonfkiakjaimaaRows7
import Derived.Test.YtmonfkiakjaimaaNums
import Derived.Test.YtmonfkiakjaimaaBase
import Derived.RangeFuncBox
import Derived.Deep.AppendLies
namespace Go.Proofs.Ytmonfkiakjaimaa
open Go.RowKit

def upd {α : Type} (f : Nat → α) (i : Nat) (a : α) : Nat → α := fun k => if k = i then a else f k
theorem upd_self {α : Type} (f : Nat → α) (i : Nat) (a : α) : upd f i a i = a := by simp [upd]
theorem upd_ne {α : Type} {f : Nat → α} {i k : Nat} {a : α} (h : k ≠ i) : upd f i a k = f k := by simp [upd, h]
/-- Rows of one's own that don't share a block. -/
structure Own3 (w : World) (lo : Nat) (v : Nat → Value) (q : Nat → List Int) : Prop where
  own : ∀ j, j < 3 → w.ownsRow lo 3 1 (v j) (q j).length ((q j).map numV)
  sep : ∀ i j g, i < 3 → j < 3 → (v i).ownBlock = some g → (v j).ownBlock = some g → i = j
def InV (v : Nat → Value) (k : Nat) : Prop := ∃ j, j < 3 ∧ (v j).ownBlock = some k
/-- What is new of them lies above. -/
def VNew (n : Nat) (v v' : Nat → Value) : Prop := ∀ k, InV v' k → InV v k ∨ n ≤ k
theorem VNew.refl (n : Nat) (v : Nat → Value) : VNew n v v := fun _ h => .inl h
section
variable {w w' : World} {lo : Nat} {v : Nat → Value} {q : Nat → List Int}
theorem Own3.only {S : Nat → Prop} (h : Own3 w lo v q) (ho : Only S w w') (hS : ∀ k, InV v k → ¬ S k) : Own3 w' lo v q :=
  ⟨fun j hj => own_only (h.own j hj) ho (fun k hk => hS k ⟨j, hj, hk⟩), h.sep⟩
theorem Own3.lt (h : Own3 w lo v q) {k : Nat} (hk : InV v k) : lo ≤ k ∧ k < w.heap.size := by
  obtain ⟨j, hj, e⟩ := hk
  exact ⟨own_base3 (h.own j hj) k e, ((h.own j hj).lt k e).2⟩
theorem Own3.nil (w : World) (lo : Nat) : Own3 w lo (fun _ => .slice none 0 0) (fun _ => []) :=
  ⟨fun _ _ => World.ownsRow_nil _ _ _ _, fun i j g _ _ h => by simp [Value.ownBlock] at h⟩
/-- One of them, put in the place of another one. -/
theorem Own3.upd {j : Nat} {u : Value} {l : List Int} (h : Own3 w lo v q) (ho : Only (fun k => (v j).ownBlock = some k) w w') (hj : j < 3) (hu : w'.ownsRow lo 3 1 u l.length (l.map numV)) (hn : ∀ g, u.ownBlock = some g → (v j).ownBlock = some g ∨ w.heap.size ≤ g) : Own3 w' lo (upd v j u) (upd q j l) := by
  have hsep : ∀ i g, i < 3 → i ≠ j → (v i).ownBlock = some g → u.ownBlock = some g → False := fun i g hi hne h1 h2 => by
    rcases hn g h2 with h3 | h3
    · exact hne (h.sep i j g hi hj h1 h3)
    · have := (h.lt ⟨i, hi, h1⟩).2; omega
  refine ⟨fun i hi => ?_, fun a b g ha hb h1 h2 => ?_⟩
  · by_cases e : i = j
    · subst e; rw [upd_self, upd_self]; exact hu
    · rw [upd_ne e, upd_ne e]; exact own_only (h.own i hi) ho (fun k hk e' => e (h.sep i j k hi hj hk e'))
  · by_cases ea : a = j
    · by_cases eb : b = j
      · rw [ea, eb]
      · subst ea
        rw [upd_self] at h1
        rw [upd_ne eb] at h2
        exact (hsep b g hb eb h2 h1).elim
    · by_cases eb : b = j
      · subst eb
        rw [upd_self] at h2
        rw [upd_ne ea] at h1
        exact (hsep a g ha ea h1 h2).elim
      · rw [upd_ne ea] at h1
        rw [upd_ne eb] at h2
        exact h.sep a b g ha hb h1 h2
theorem VNew.upd {n j : Nat} {u : Value} (hj : j < 3) (hn : ∀ g, u.ownBlock = some g → (v j).ownBlock = some g ∨ n ≤ g) : VNew n v (upd v j u) := fun k ⟨i, hi, e⟩ => by
  by_cases h : i = j
  · subst h
    rw [upd_self] at e
    exact (hn k e).imp (fun h => ⟨i, hj, h⟩) id
  · rw [upd_ne h] at e
    exact .inl ⟨i, hi, e⟩
theorem VNew.trans {a b c : Nat → Value} {n m : Nat} (h1 : VNew n a b) (h2 : VNew m b c) (hm : n ≤ m) : VNew n a c := fun k hk => by
  rcases h2 k hk with h | h
  · exact h1 k h
  · exact .inr (by omega)
end

end Go.Proofs.Ytmonfkiakjaimaa
