/- Layer 7 (package hist): a call of a row ends: what is written. -/
import Derived.Test.YthngehpmoiojfaaLogIs7
import Derived.Deep.MidRow
namespace Go.Proofs.Ythngehpmoiojfaa
open Go.RowKit

def endC (c : CallZ) (a : AnZ) (t : Int) : CallZ := { c with an := a, to := t }
/-- Cells, one behind the other, written into a list. -/
def setsL (l : List Value) (o : Nat) : List Value → List Value
  | [] => l
  | v :: r => setsL (l.set o v) (o + 1) r
theorem own_setCells {base : Nat} {e : TypeId} {size g n : Nat} {v : Value} (hg : v.ownBlock = some g) : ∀ (vs : List Value) (o : Nat) (w : World) (xs : List Value), w.ownsRow base e size v n xs → (w.setCells g o vs).ownsRow base e size v n (setsL xs o vs)
  | [], _, _, _, h => h
  | u :: r, o, w, xs, h => by
    rw [World.setCells]
    exact own_setCells hg r (o + 1) _ _ (own_set h hg u)
theorem only_setCells {S : Nat → Prop} {g : Nat} (hS : S g) : ∀ (vs : List Value) (o : Nat) (w0 w : World), Only S w0 w → Only S w0 (w.setCells g o vs)
  | [], _, _, _, h => h
  | u :: r, o, w0, w, h => by
    rw [World.setCells]
    exact only_setCells hS r (o + 1) w0 _ (h.setCell (p := ⟨g, o, none⟩) (.inl hS) u)
theorem step_store_mid {P : Program} {ops : Array Oper} {op : Oper} {a : Act} {w : World} {K : Act → World → Prop} {Q : Exit → Act → World → Prop} {E : Prop} (hgd : op.guard = none) (ty : TypeId) (x y : Operand) (ho : op.op = .store ty x y)
    (b o : Nat) (cells : Array Value) (hx : a.eval x = .pointer (some ⟨b, o, none⟩)) (hy : a.eval y = .agg cells)
    (ht : w.there b o cells.size) (hi : (P.info? ty).map (·.size) = some cells.size) (h1 : cells.all (·.oneCell') = true)
    (h : K (a.put op.dst undef) (w.setCells b o cells.toList)) : if Region.wanted op (yielded ops a.tmps) = true then Oper.wp P op a w K Q else E := by
  have hw : Region.wanted op (yielded ops a.tmps) = true := by simp [Region.wanted, hgd]
  rw [if_pos hw]
  exact wp_store_mid ty x y ho b o cells hx hy ht hi h1 h

/-- What lies there of a call of a row. -/
theorem call_there {w : World} {base g n : Nat} {v : Value} {L : List CallZ} (h : w.ownsRow base 34 15 v n (callsV L)) (hn : n = L.length) (hg : v.ownBlock = some g) {i : Nat} {c : CallZ} (hc : L[i]? = some c) :
    w.rangeAt g (i * 15) (callV c) ∧ (∀ o m, o + m ≤ 15 → w.there g (i * 15 + o) m) := by
  subst hn
  obtain ⟨l, cap, rfl, _, hB, ht, hle⟩ := own_heap h hg
  have hi : i < L.length := (List.getElem?_eq_some_iff.1 hc).1
  have hm : i * 15 + 15 ≤ L.length * 15 := by omega
  refine ⟨fun j u hu => ?_, fun o m hom j hj => ⟨?_, hB.frozen _⟩⟩
  · have h8 := flat_at (f := callV) callV_len hc hu
    rw [show L.flatMap callV = callsV L from rfl, ← ht, List.getElem?_take] at h8
    split at h8
    · exact (hB.cell _).trans h8
    · cases h8
  · rw [hB.cell, List.getElem?_eq_getElem (by omega)]
    rfl
/-- A call's cells, one by one. -/
theorem call_cells {w : World} {g o : Nat} {c : CallZ} (h : w.rangeAt g o (callV c)) : w.cell? ⟨g, o, none⟩ = some (numV c.th) ∧ w.cell? ⟨g, o + 1, none⟩ = some (numV c.pl) ∧ w.cell? ⟨g, o + 2, none⟩ = some (numV c.op.k) ∧ w.cell? ⟨g, o + 3, none⟩ = some (numV c.op.s) ∧ w.cell? ⟨g, o + 4, none⟩ = some (.string c.op.t) ∧ w.cell? ⟨g, o + 5, none⟩ = some (.string c.op.p) ∧ w.cell? ⟨g, o + 6, none⟩ = some (.bool c.op.keep) ∧ w.cell? ⟨g, o + 7, none⟩ = some (numV c.an.e) ∧ w.cell? ⟨g, o + 8, none⟩ = some (numV c.an.a) ∧ w.cell? ⟨g, o + 9, none⟩ = some (numV c.an.b) ∧ w.cell? ⟨g, o + 10, none⟩ = some (.string c.an.t) ∧ w.cell? ⟨g, o + 11, none⟩ = some (.string c.an.p) ∧ w.cell? ⟨g, o + 12, none⟩ = some (.bool c.an.kept) ∧ w.cell? ⟨g, o + 13, none⟩ = some (numV c.fr) ∧ w.cell? ⟨g, o + 14, none⟩ = some (numV c.to) :=
  ⟨h 0 _ rfl, h 1 _ rfl, h 2 _ rfl, h 3 _ rfl, h 4 _ rfl, h 5 _ rfl, h 6 _ rfl, h 7 _ rfl, h 8 _ rfl, h 9 _ rfl, h 10 _ rfl, h 11 _ rfl, h 12 _ rfl, h 13 _ rfl, h 14 _ rfl⟩
theorem row_end {L : List CallZ} {i : Nat} {c : CallZ} (hc : L[i]? = some c) (a : AnZ) (t : Int) : (setsL (callsV L) (i * 15 + 7) (anV a)).set (i * 15 + 14) (numV t) = callsV (L.set i (endC c a t)) := by
  have R := recRow_flat (f := callV) callV_len L
  refine RecRow.flat (c := 15) (by decide) callV_len (L := L.set i (endC c a t)) (R.turn callV_len (i := i) (y := endC c a t) ?_ ?_)
  · simp only [anV, setsL]
    refine But.set ?_ (by omega) _
    iterate 6 refine But.set ?_ (by omega) _
    exact But.refl _ _
  · intro j v hv
    have hj : j < 15 := by rw [← callV_len (endC c a t)]; exact (List.getElem?_eq_some_iff.1 hv).1
    have hi : i < L.length := (List.getElem?_eq_some_iff.1 hc).1
    have hlen : (callsV L).length = L.length * 15 := R.len
    have hat : ∀ (j : Nat) v, (callV c)[j]? = some v → (callsV L)[i * 15 + j]? = some v := R.at_ i c hc
    have key : ∀ j, j < 15 → (j < 7 ∨ j = 13) → (callV c)[j]? = (callV (endC c a t))[j]? := by
      intro j hj h
      rcases h with h | rfl
      · match j, h with
        | 0, _ => rfl
        | 1, _ => rfl
        | 2, _ => rfl
        | 3, _ => rfl
        | 4, _ => rfl
        | 5, _ => rfl
        | 6, _ => rfl
      · rfl
    simp only [anV, setsL]
    have hcase : (j < 7 ∨ j = 13) ∨ j = 7 ∨ j = 8 ∨ j = 9 ∨ j = 10 ∨ j = 11 ∨ j = 12 ∨ j = 14 := by omega
    rcases hcase with h | rfl | rfl | rfl | rfl | rfl | rfl | rfl
    · rw [List.getElem?_set_ne (by omega), List.getElem?_set_ne (by omega), List.getElem?_set_ne (by omega), List.getElem?_set_ne (by omega), List.getElem?_set_ne (by omega), List.getElem?_set_ne (by omega), List.getElem?_set_ne (by omega)]
      exact hat j v ((key j hj h).trans hv)
    all_goals
      simp [callV, endC] at hv
      subst hv
      simp [List.getElem?_set, hlen]
      omega

theorem row_end2 {L : List CallZ} {i : Nat} {c : CallZ} (hc : L[i]? = some c) (a : AnZ) (t : Int) : setsL ((callsV L).set (i * 15 + 14) (numV t)) (i * 15 + 7) (anV a) = callsV (L.set i (endC c a t)) := by
  have R := recRow_flat (f := callV) callV_len L
  refine RecRow.flat (c := 15) (by decide) callV_len (L := L.set i (endC c a t)) (R.turn callV_len (i := i) (y := endC c a t) ?_ ?_)
  · simp only [anV, setsL]
    refine But.set ?_ (by omega) _
    iterate 6 refine But.set ?_ (by omega) _
    exact But.refl _ _
  · intro j v hv
    have hj : j < 15 := by rw [← callV_len (endC c a t)]; exact (List.getElem?_eq_some_iff.1 hv).1
    have hi : i < L.length := (List.getElem?_eq_some_iff.1 hc).1
    have hlen : (callsV L).length = L.length * 15 := R.len
    have hat : ∀ (j : Nat) v, (callV c)[j]? = some v → (callsV L)[i * 15 + j]? = some v := R.at_ i c hc
    have key : ∀ j, j < 15 → (j < 7 ∨ j = 13) → (callV c)[j]? = (callV (endC c a t))[j]? := by
      intro j hj h
      rcases h with h | rfl
      · match j, h with
        | 0, _ => rfl
        | 1, _ => rfl
        | 2, _ => rfl
        | 3, _ => rfl
        | 4, _ => rfl
        | 5, _ => rfl
        | 6, _ => rfl
      · rfl
    simp only [anV, setsL]
    have hcase : (j < 7 ∨ j = 13) ∨ j = 7 ∨ j = 8 ∨ j = 9 ∨ j = 10 ∨ j = 11 ∨ j = 12 ∨ j = 14 := by omega
    rcases hcase with h | rfl | rfl | rfl | rfl | rfl | rfl | rfl
    · rw [List.getElem?_set_ne (by omega), List.getElem?_set_ne (by omega), List.getElem?_set_ne (by omega), List.getElem?_set_ne (by omega), List.getElem?_set_ne (by omega), List.getElem?_set_ne (by omega), List.getElem?_set_ne (by omega)]
      exact hat j v ((key j hj h).trans hv)
    all_goals
      simp [callV, endC] at hv
      subst hv
      simp [List.getElem?_set, hlen]
      omega

end Go.Proofs.Ythngehpmoiojfaa
