/- Rows of a call's own, and what keeps them apart; rows of records as lists. Whatever program. -/
import Derived.Test.YtmfejpbijllojaaGreatBlk
import Derived.Test.YtmfejpbijllojaaGreatCopy3
import Derived.Test.YtmfejpbijllojaaGreatRecs
import Derived.Deep.AppendLies
import Derived.OwnWalk
namespace Go.Proofs.YtmfejpbijllojaaGreat
open Go.RowKit

theorem info_at {P : Program} {t : TypeId} {z : Option Value} {size bytes : Nat} (h : (P.info? t).map (fun i => (i.zero, i.size, i.bytes)) = some (z, size, bytes)) : ∃ i, P.info? t = some i ∧ i.zero = z ∧ i.size = size ∧ i.bytes = bytes := by
  obtain ⟨i, hi, he⟩ := Option.map_eq_some_iff.1 h
  simp only [Prod.mk.injEq] at he
  exact ⟨i, hi, he.1, he.2.1, he.2.2⟩
theorem blk_apart {w : World} {t e : TypeId} {B base g n : Nat} {l : List Value} {v : Value} {xs : List Value} {size : Nat} (h : Blk t w B l) (ho : w.ownsRow base e size v n xs) (hg : v.ownBlock = some g) (hne : t ≠ e) : B ≠ g := by
  rintro rfl
  rcases ho.2 with ⟨rfl, _⟩ | ⟨g', cap, cur, rfl, _, h2, _⟩
  · simp [Value.ownBlock] at hg
  · simp [Value.ownBlock] at hg
    subst hg
    rw [show w.heap[g']? = _ from h] at h2
    cases h2
    exact hne rfl
theorem own_only {w w' : World} {S : Nat → Prop} {e : TypeId} {base n size : Nat} {v : Value} {xs : List Value} (h : w.ownsRow base e size v n xs) (ho : Only S w w') (hS : ∀ k, v.ownBlock = some k → ¬ S k) : w'.ownsRow base e size v n xs := by
  obtain ⟨h0, h1 | ⟨g, cap, cur, rfl, h1, h2, h3⟩⟩ := h
  · exact ⟨h0, .inl h1⟩
  · exact ⟨h0, .inr ⟨g, cap, cur, rfl, h1, (ho.block g (Array.getElem?_eq_some_iff.1 h2).1 (hS g rfl)).trans h2, h3⟩⟩
theorem grown_only {w w' : World} {row : Option Nat} (h : w.grownBy w' row) : Only (fun k => row = some k) w w' :=
  ⟨h.os, h.tape, h.output, h.size, fun k hk hn => h.block k hk (fun e => hn e.symm)⟩
theorem own_heap {w : World} {e : TypeId} {base n size g : Nat} {v : Value} {xs : List Value} (h : w.ownsRow base e size v n xs) (hg : v.ownBlock = some g) : ∃ l cap, v = .slice (some ⟨g, 0, none⟩) n cap ∧ base ≤ g ∧ Blk e w g l ∧ l.take (n * size) = xs ∧ n * size ≤ l.length := by
  obtain ⟨h0, ⟨rfl, _⟩ | ⟨g', cap, cur, rfl, h1, h2, h3, h4, h5, h6⟩⟩ := h
  · simp [Value.ownBlock] at hg
  · simp [Value.ownBlock] at hg
    subst hg
    exact ⟨cur.toList, cap, rfl, h1, by show w.heap[g']? = _; simpa using h2, h6, by rw [Array.length_toList, h5]; exact Nat.mul_le_mul_right _ h3⟩
theorem own_form {w : World} {e : TypeId} {base n size : Nat} {v : Value} {xs : List Value} (h : w.ownsRow base e size v n xs) : ∃ a c, v = .slice a n c := by
  obtain ⟨h0, ⟨rfl, rfl⟩ | ⟨g', cap, cur, rfl, _⟩⟩ := h
  · exact ⟨_, _, rfl⟩
  · exact ⟨_, _, rfl⟩
/-- One cell of a row, written. -/
theorem own_set {w : World} {base : Nat} {e : TypeId} {size g n k : Nat} {v : Value} {xs : List Value} (h : w.ownsRow base e size v n xs) (hg : v.ownBlock = some g) (u : Value) :
    (w.setCell ⟨g, k, none⟩ u).ownsRow base e size v n (xs.set k u) := by
  obtain ⟨h0, ⟨rfl, _⟩ | ⟨g', cap, cur, rfl, h2, h3, h4, h5, h6, h7⟩⟩ := h
  · simp [Value.ownBlock] at hg
  · simp [Value.ownBlock] at hg
    subst hg
    have hb : Blk e w g' cur.toList := by show w.heap[g']? = _; simpa using h3
    have hb' := hb.set k u
    refine ⟨by simpa using h0, .inr ⟨g', cap, (cur.toList.set k u).toArray, rfl, h2, hb', h4, h5, by simpa using h6, ?_⟩⟩
    rw [← h7]
    simp [List.take_set]

/-- A row of records, as the one list of their cells. -/
theorem recRow_flat {α : Type} {c : Nat} {f : α → List Value} (hf : ∀ x, (f x).length = c) : ∀ L : List α, RecRow c f (L.flatMap f) L
  | [] => ⟨by simp, fun i x hx => by simp at hx⟩
  | y :: L => by
    have ih := recRow_flat hf L
    refine ⟨by simp only [List.flatMap_cons, List.length_append, ih.len, hf, List.length_cons, Nat.add_mul]; omega, fun i x hx j v hv => ?_⟩
    have hj : j < c := by rw [← hf x]; exact (List.getElem?_eq_some_iff.1 hv).1
    rw [List.flatMap_cons]
    cases i with
    | zero =>
      simp at hx
      subst hx
      rw [Nat.zero_mul, Nat.zero_add, List.getElem?_append_left (by rw [hf]; exact hj)]
      exact hv
    | succ i =>
      simp at hx
      rw [List.getElem?_append_right (by rw [hf, Nat.add_mul]; omega), hf, show (i + 1) * c + j - c = i * c + j by rw [Nat.add_mul]; omega]
      exact ih.at_ i x hx j v hv
theorem RecRow.eq {α : Type} {c : Nat} (hc : 0 < c) {f : α → List Value} (hf : ∀ x, (f x).length = c) {l l' : List Value} {L : List α} (h : RecRow c f l L) (h' : RecRow c f l' L) : l = l' := by
  apply List.ext_getElem?
  intro m
  by_cases hm : m < L.length * c
  · have hi : m / c < L.length := Nat.div_lt_of_lt_mul (by rw [Nat.mul_comm]; exact hm)
    have hj : m % c < c := Nat.mod_lt _ hc
    have e : m = m / c * c + m % c := by rw [Nat.mul_comm]; exact (Nat.div_add_mod m c).symm
    have hx := List.getElem?_eq_getElem hi
    have hv : (f L[m / c])[m % c]? = some ((f L[m / c])[m % c]'(by rw [hf]; exact hj)) := List.getElem?_eq_getElem _
    have e1 := h.at_ _ _ hx _ _ hv
    have e2 := h'.at_ _ _ hx _ _ hv
    rw [← e] at e1 e2
    rw [e1, e2]
  · rw [List.getElem?_eq_none (by rw [h.len]; omega), List.getElem?_eq_none (by rw [h'.len]; omega)]
theorem RecRow.flat {α : Type} {c : Nat} (hc : 0 < c) {f : α → List Value} (hf : ∀ x, (f x).length = c) {l : List Value} {L : List α} (h : RecRow c f l L) : l = L.flatMap f := h.eq hc hf (recRow_flat hf L)
theorem flat_len {α : Type} {c : Nat} {f : α → List Value} (hf : ∀ x, (f x).length = c) (L : List α) : (L.flatMap f).length = L.length * c := (recRow_flat hf L).len
theorem flat_at {α : Type} {c : Nat} {f : α → List Value} (hf : ∀ x, (f x).length = c) {L : List α} {i j : Nat} {x : α} {v : Value} (hx : L[i]? = some x) (hv : (f x)[j]? = some v) : (L.flatMap f)[i * c + j]? = some v := (recRow_flat hf L).at_ i x hx j v hv

/-- A row of records of the call's own, read. -/
theorem recs_own {α : Type} {c : Nat} {f : α → List Value} (hf : ∀ x, (f x).length = c) {w : World} {base : Nat} {e : TypeId} {v : Value} {L : List α} (h : w.ownsRow base e c v L.length (L.flatMap f)) : ∃ a cap, v = .slice a L.length cap ∧ RecsIn c f w a L := by
  obtain ⟨a, cap, rfl⟩ := own_form h
  refine ⟨a, cap, rfl, fun k x hx => ?_⟩
  rcases h.2 with ⟨h1, h2⟩ | ⟨g, cap', cur, h1, h2, h3, h4, h5, h6, h7⟩
  · have := (List.getElem?_eq_some_iff.1 hx).1
    omega
  · cases h1
    refine ⟨g, 0, rfl, (Array.getElem?_eq_some_iff.1 h3).1, fun j u hu => ?_⟩
    have h8 := flat_at hf hx hu
    rw [← h7, List.getElem?_take] at h8
    split at h8
    · rw [World.cell?, Nat.zero_add]
      simp [h3]
      simpa using h8
    · cases h8

end Go.Proofs.YtmfejpbijllojaaGreat
