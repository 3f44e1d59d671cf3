/- Layer 10: pools, as plain reckoning. -/
import Derived.Test.YticdfijblcbbbaaOwn3
import Derived.Test.YticdfijblcbbbaaMade
import Derived.Test.YticdfijblcbbbaaStep
import Derived.BigQuiet
import Derived.Deep.LoopGhost
import Derived.Deep.QuietTactic
import Derived.Deep.RegionHeld3
import Derived.Deep.Cut
import Derived.IntWalk
namespace Go.Proofs.Yticdfijblcbbbaa
open Go.RowKit

/-- A place: what it has had, its stamp, is it taken. -/
structure Plc (α : Type) where
  x : α
  st : Nat
  tk : Bool
/-- A pool: its limit, its places, those that are free. -/
structure Po (α : Type) where
  lim : Nat
  M : List (Plc α)
  F : List Int
def plcV {α : Type} (f : α → Value) (z : Value) (p : Plc α) : List Value := [bif p.tk then f p.x else z, .int .i64 (p.st : Int), .bool p.tk]
theorem plcV_len {α : Type} (f : α → Value) (z : Value) (p : Plc α) : (plcV f z p).length = 3 := rfl
def FOk {α : Type} (x : Po α) : Prop := ∀ i ∈ x.F, 1 ≤ i ∧ i ≤ (x.M.length : Int)
def limZ (k : Int) : Nat := (min (max k 0) 65536).toNat
def hasP (n : Nat) (id : Int) : Bool := decide (1 ≤ id) && decide (id ≤ (n : Int))
theorem hasP_yes {n : Nat} {id : Int} (h : hasP n id = true) : ∃ i : Nat, id = (i : Int) + 1 ∧ i < n := by
  simp [hasP] at h
  exact ⟨(id - 1).toNat, by omega, by omega⟩
/-- Taken: which place, its stamp, the pool then. -/
def takeZ {α : Type} (x : Po α) (v : α) : Option (Int × Nat × Po α) :=
  match x.F.getLast? with
  | some j => match x.M[(j - 1).toNat]? with
    | some p => some (j, p.st, ⟨x.lim, x.M.set (j - 1).toNat ⟨v, p.st, true⟩, x.F.dropLast⟩)
    | none => none
  | none => if x.lim ≤ x.M.length then none else some ((x.M.length : Int) + 1, 0, ⟨x.lim, x.M ++ [⟨v, 0, true⟩], []⟩)
/-- Given back. -/
def giveZ {α : Type} (x : Po α) (id : Int) : Option (Po α) :=
  if 1 ≤ id then match x.M[(id - 1).toNat]? with
    | some p => if p.tk then some ⟨x.lim, x.M.set (id - 1).toNat ⟨p.x, p.st + 1, false⟩, x.F ++ [id]⟩ else none
    | none => none
  else none
/-- What the place has, or an error's number. -/
def getZ {α : Type} (x : Po α) (id st : Int) : α ⊕ Int :=
  if 1 ≤ id then match x.M[(id - 1).toNat]? with
    | some p => if p.tk && decide ((p.st : Int) = st) then .inl p.x else .inr 9
    | none => .inr 4
  else .inr 4
def stampZ {α : Type} (x : Po α) (id : Int) : Int :=
  if 1 ≤ id then match x.M[(id - 1).toNat]? with
    | some p => p.st
    | none => -1
  else -1
section
variable {α : Type} {x : Po α}
theorem giveZ_no {id : Int} (h : hasP x.M.length id = false) : giveZ x id = none := by
  unfold giveZ
  split
  · rename_i h1
    rw [List.getElem?_eq_none (by simp [hasP, h1] at h; omega)]
  · rfl
theorem getZ_no {id st : Int} (h : hasP x.M.length id = false) : getZ x id st = .inr 4 := by
  unfold getZ
  split
  · rename_i h1
    rw [List.getElem?_eq_none (by simp [hasP, h1] at h; omega)]
  · rfl
theorem stampZ_no {id : Int} (h : hasP x.M.length id = false) : stampZ x id = -1 := by
  unfold stampZ
  split
  · rename_i h1
    rw [List.getElem?_eq_none (by simp [hasP, h1] at h; omega)]
  · rfl
theorem giveZ_at {i : Nat} {p : Plc α} (h : x.M[i]? = some p) : giveZ x ((i : Int) + 1) = if p.tk then some ⟨x.lim, x.M.set i ⟨p.x, p.st + 1, false⟩, x.F ++ [(i : Int) + 1]⟩ else none := by
  unfold giveZ
  rw [if_pos (by omega), show ((i : Int) + 1 - 1).toNat = i by omega, h]
theorem getZ_at {i : Nat} {p : Plc α} {st : Int} (h : x.M[i]? = some p) : getZ x ((i : Int) + 1) st = if p.tk && decide ((p.st : Int) = st) then .inl p.x else .inr 9 := by
  unfold getZ
  rw [if_pos (by omega), show ((i : Int) + 1 - 1).toNat = i by omega, h]
theorem stampZ_at {i : Nat} {p : Plc α} (h : x.M[i]? = some p) : stampZ x ((i : Int) + 1) = p.st := by
  unfold stampZ
  rw [if_pos (by omega), show ((i : Int) + 1 - 1).toNat = i by omega, h]
theorem takeZ_free {F : List Int} {i : Nat} {p : Plc α} {v : α} (hF : x.F = F ++ [(i : Int) + 1]) (h : x.M[i]? = some p) : takeZ x v = some ((i : Int) + 1, p.st, ⟨x.lim, x.M.set i ⟨v, p.st, true⟩, F⟩) := by
  unfold takeZ
  rw [hF, List.getLast?_concat]
  simp only
  rw [show ((i : Int) + 1 - 1).toNat = i by omega, h, List.dropLast_concat]
theorem takeZ_new {v : α} (hF : x.F = []) (h : ¬ x.lim ≤ x.M.length) : takeZ x v = some ((x.M.length : Int) + 1, 0, ⟨x.lim, x.M ++ [⟨v, 0, true⟩], []⟩) := by
  unfold takeZ
  rw [hF]
  simp [h]
theorem takeZ_full {v : α} (hF : x.F = []) (h : x.lim ≤ x.M.length) : takeZ x v = none := by
  unfold takeZ
  rw [hF]
  simp [h]
/-- The three ways to take. -/
theorem free_last (h : FOk x) : x.F = [] ∨ ∃ F i p, x.F = F ++ [((i : Nat) : Int) + 1] ∧ x.M[i]? = some p := by
  rcases List.eq_nil_or_concat x.F with e | ⟨F, j, e⟩
  · exact .inl e
  · rw [List.concat_eq_append] at e
    obtain ⟨h1, h2⟩ := h j (by rw [e]; simp)
    obtain ⟨i, rfl⟩ : ∃ i : Nat, j = (i : Int) + 1 := ⟨(j - 1).toNat, by omega⟩
    exact .inr ⟨F, i, _, e, List.getElem?_eq_getElem (by omega)⟩
theorem FOk.take {v : α} {j : Int} {s : Nat} {y : Po α} (h : FOk x) (ht : takeZ x v = some (j, s, y)) : FOk y ∧ y.lim = x.lim ∧ x.M.length ≤ y.M.length ∧ y.M.length ≤ x.M.length + 1 ∧ y.F.length ≤ x.F.length := by
  rcases free_last h with e | ⟨F, i, p, e, hp⟩
  · by_cases hl : x.lim ≤ x.M.length
    · rw [takeZ_full e hl] at ht; cases ht
    · rw [takeZ_new e hl] at ht
      simp only [Option.some.injEq, Prod.mk.injEq] at ht
      obtain ⟨_, _, rfl⟩ := ht
      exact ⟨fun i hi => by simp at hi, rfl, by simp, by simp, by simp⟩
  · rw [takeZ_free e hp] at ht
    simp only [Option.some.injEq, Prod.mk.injEq] at ht
    obtain ⟨_, _, rfl⟩ := ht
    refine ⟨fun i hi => ?_, rfl, by simp, by simp, by simp [e]⟩
    simp only [List.length_set]
    exact h i (by rw [e]; simp [hi])
theorem FOk.give {id : Int} {y : Po α} (h : FOk x) (ht : giveZ x id = some y) : FOk y ∧ y.lim = x.lim ∧ y.M.length = x.M.length ∧ y.F.length = x.F.length + 1 := by
  cases hh : hasP x.M.length id with
  | false => rw [giveZ_no hh] at ht; cases ht
  | true =>
    obtain ⟨i, rfl, hi⟩ := hasP_yes hh
    rw [giveZ_at (List.getElem?_eq_getElem hi)] at ht
    split at ht
    · cases ht
      refine ⟨fun j hj => ?_, rfl, by simp, by simp⟩
      simp only [List.length_set]
      simp only [List.mem_append, List.mem_singleton] at hj
      rcases hj with hj | rfl
      · exact h j hj
      · omega
    · cases ht
end

/-- One place has turned. -/
theorem plc_turn {α : Type} {f : α → Value} {z : Value} {M : List (Plc α)} {i : Nat} (q : Plc α) {l' : List Value} (hb : But (fun k => i * 3 ≤ k ∧ k < i * 3 + 3) (M.flatMap (plcV f z)) l')
    (h0 : l'[i * 3]? = some (bif q.tk then f q.x else z)) (h1 : l'[i * 3 + 1]? = some (.int .i64 (q.st : Int))) (h2 : l'[i * 3 + 2]? = some (.bool q.tk)) : l' = (M.set i q).flatMap (plcV f z) := by
  have hr := recRow_flat (plcV_len f z) M
  refine (hr.turn (plcV_len f z) (i := i) (y := q) hb (fun j v hv => ?_)).flat (by decide) (plcV_len f z)
  have hj : j < 3 := (List.getElem?_eq_some_iff.1 hv).1
  match j, hj with
  | 0, _ => simp [plcV] at hv; rw [← hv]; exact h0
  | 1, _ => simp [plcV] at hv; rw [← hv]; exact h1
  | 2, _ => simp [plcV] at hv; rw [← hv]; exact h2
theorem flat3_len {α : Type} {f : α → Value} {z : Value} (M : List (Plc α)) : (M.flatMap (plcV f z)).length = M.length * 3 := flat_len (plcV_len f z) M
theorem plc_take {α : Type} {f : α → Value} {z : Value} {M : List (Plc α)} {i : Nat} {p : Plc α} (hp : M[i]? = some p) (v : α) : ((M.flatMap (plcV f z)).set (i * 3) (f v)).set (i * 3 + 2) (.bool true) = (M.set i ⟨v, p.st, true⟩).flatMap (plcV f z) := by
  have hi := (List.getElem?_eq_some_iff.1 hp).1
  have hl := flat3_len (f := f) (z := z) M
  refine plc_turn _ (((But.refl _ _).set (by constructor <;> omega) _).set (by constructor <;> omega) _) ?_ ?_ ?_
  · rw [List.getElem?_set_ne (by omega), List.getElem?_set_self (by omega)]; rfl
  · rw [List.getElem?_set_ne (by omega), List.getElem?_set_ne (by omega)]
    exact flat_at (plcV_len f z) hp rfl
  · rw [List.getElem?_set_self (by simp only [List.length_set]; omega)]
theorem plc_give {α : Type} {f : α → Value} {z : Value} {M : List (Plc α)} {i : Nat} {p : Plc α} (hp : M[i]? = some p) : (((M.flatMap (plcV f z)).set (i * 3) z).set (i * 3 + 1) (.int .i64 ((p.st : Int) + 1))).set (i * 3 + 1 + 1) (.bool false) = (M.set i ⟨p.x, p.st + 1, false⟩).flatMap (plcV f z) := by
  have hi := (List.getElem?_eq_some_iff.1 hp).1
  have hl := flat3_len (f := f) (z := z) M
  refine plc_turn _ ((((But.refl _ _).set (by constructor <;> omega) _).set (by constructor <;> omega) _).set (by constructor <;> omega) _) ?_ ?_ ?_
  · rw [List.getElem?_set_ne (by omega), List.getElem?_set_ne (by omega), List.getElem?_set_self (by omega)]; rfl
  · rw [List.getElem?_set_ne (by omega), List.getElem?_set_self (by simp only [List.length_set]; omega)]; simp
  · rw [List.getElem?_set_self (by simp only [List.length_set]; omega)]
/-- The free ones, but the last. -/
theorem fr_init {w : World} {lo : Nat} {fv : Value} {F : List Int} {j : Int} (h : w.ownsRow lo 3 1 fv (F ++ [j]).length ((F ++ [j]).map numV)) : ∃ g cap, fv = .slice (some ⟨g, 0, none⟩) (F.length + 1) cap ∧ F.length + 1 ≤ cap ∧ w.cell? ⟨g, F.length, none⟩ = some (numV j) ∧ w.ownsRow lo 3 1 (.slice (some ⟨g, 0, none⟩) F.length cap) F.length (F.map numV) := by
  rcases h.2 with ⟨_, e⟩ | ⟨g, cap, cur, e, h1, h2, h3, h4, h5, h6⟩
  · simp at e
  · have hl : (F ++ [j]).length = F.length + 1 := by simp
    rw [hl] at h3 e h6
    refine ⟨g, cap, e, h3, ?_, by simp, .inr ⟨g, cap, cur, rfl, h1, h2, by omega, h4, h5, ?_⟩⟩
    · have hb : Blk 3 w g cur.toList := by show w.heap[g]? = _; simpa using h2
      refine hb.at ?_
      have h7 : ((F ++ [j]).map numV)[F.length]? = some (numV j) := by simp
      rw [← h6, List.getElem?_take] at h7
      split at h7
      · exact h7
      · cases h7
    · have := congrArg (List.take (F.length * 1)) h6
      rw [List.take_take, Nat.min_eq_left (by omega)] at this
      rw [this]
      simp

end Go.Proofs.Yticdfijblcbbbaa
