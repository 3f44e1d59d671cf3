/- A slice of structs among a law's arguments, by the cells of its elements. Whatever program. · Rows of a call's own, and what keeps them apart; rows of records as lists. Whatever program. -/
import Derived.Test.YtabgedmocdjkcaaJoin1
import Derived.Deep.Slices
import Derived.Deep.Fields
import Derived.ChangeSame
import Derived.Test.YtabgedmocdjkcaaJoin18
import Derived.Deep.AppendLies
import Derived.OwnWalk
namespace Go.Proofs.Ytabgedmocdjkcaa
open Go.ChangeShapes Go.WideShapes Go.ChangeAt Go.RowKit Go.Deep

/-- A slice that came in, by its elements, each of c cells. -/
def RecsIn {α : Type} (c : Nat) (f : α → List Value) (W : World) (a : Option Addr) (L : List α) : Prop :=
  ∀ (k : Nat) x, L[k]? = some x → ∃ b off, a = some ⟨b, off, none⟩ ∧ b < W.heap.size ∧ ∀ j v, (f x)[j]? = some v → W.cell? ⟨b, off + k * c + j, none⟩ = some v
theorem RecsIn.below {α : Type} {c : Nat} {f : α → List Value} {W W' : World} {a : Option Addr} {L : List α} (h : RecsIn c f W a L) (hb : Below W.heap.size W W') : RecsIn c f W' a L := fun k x hx => by
  obtain ⟨b, off, ha, hlt, hc⟩ := h k x hx
  exact ⟨b, off, ha, Nat.lt_of_lt_of_le hlt hb.size, fun j v hv => (hb.cell (p := ⟨b, off + k * c + j, none⟩) hlt).trans (hc j v hv)⟩
theorem RecsIn.at {α : Type} {c : Nat} {f : α → List Value} {W : World} {a : Option Addr} {L : List α} (h : RecsIn c f W a L) (k : Nat) (hk : k < L.length) :
    ∃ b off, a = some ⟨b, off, none⟩ ∧ b < W.heap.size ∧ ∀ j v, (f L[k])[j]? = some v → W.cell? ⟨b, off + k * c + j, none⟩ = some v := h k _ (List.getElem?_eq_getElem hk)
theorem RecsIn.map {α β : Type} {c : Nat} {f : α → List Value} {g : β → List Value} {W : World} {a : Option Addr} {L : List α} (h : RecsIn c f W a L) (r : α → β) (hr : ∀ x ∈ L, g (r x) = f x) : RecsIn c g W a (L.map r) := fun k y hy => by
  rw [List.getElem?_map, Option.map_eq_some_iff] at hy
  obtain ⟨x, hx, rfl⟩ := hy
  obtain ⟨b, off, ha, hlt, hc⟩ := h k x hx
  exact ⟨b, off, ha, hlt, by rw [hr x (List.mem_of_getElem? hx)]; exact hc⟩

theorem plain_add (b off k : Nat) : (⟨b, off, none⟩ : Addr).add k = ⟨b, off + k, none⟩ := by
  unfold Addr.add
  split
  · simp_all
  · rfl
/-- Each element's cells, and how each field of it reads. -/
theorem open_recs {H : Type} {enc : TypeId × Value → H} {P : Program} {t e : TypeId} {fs : Array Field} (ht : P.underlying t = some (.slice e)) (he : P.underlying e = some (.struct fs)) (hone : oneCellFields P fs = true) (hC : P.cellsOf e = fs.size) (hpos : 0 < fs.size)
    {W : World} {a : Option Addr} {len cap : Nat} {d : DataW H} {ps : List MemPlace}
    (h : DataW.Trod enc P W 0 (fun _ => true) true t (.slice a len cap) d ps) (hlt : ∀ x ∈ ps, x.block < W.heap.size) :
    ∃ L : List (List Value), L.length = len ∧ RecsIn fs.size (fun x => x) W a L ∧
      ∀ x ∈ L, x.length = fs.size ∧ ∀ (j : Nat) (f : Field), fs[j]? = some f → ∃ v y n, x[j]? = some v ∧ DataW.trod enc P W 0 (fun _ => true) true n f.type [v] = some y := by
  obtain ⟨fuel, hf⟩ := h
  rcases open_slice ht hf with ⟨hcs, hx⟩ | ⟨a', len', cap', m, n, D, Pl, hcs, _, hl, hm, hmm, hx, hi⟩
  · simp [Value.cells] at hcs
    obtain ⟨rfl, rfl, rfl⟩ := hcs
    exact ⟨[], rfl, fun k x hx => by simp at hx, fun x hx => by simp at hx⟩
  simp [Value.cells] at hcs
  obtain ⟨rfl, rfl, rfl⟩ := hcs
  simp only [if_true] at hmm
  simp only [Prod.mk.injEq] at hx
  obtain ⟨rfl, rfl⟩ := hx
  have hmem : ∀ i, i < len → ∃ cs', W.cells? 0 (a'.add (i * fs.size)) fs.size = some cs' ∧ DataW.trod enc P W 0 (fun _ => true) true n e cs' = some (D i, Pl i) := fun i h => by
    have := hi i (by omega)
    rwa [hC] at this
  obtain ⟨F, hF⟩ : ∃ F : Nat → List Value, ∀ i, i < len → W.cells? 0 (a'.add (i * fs.size)) fs.size = some (F i) ∧ DataW.trod enc P W 0 (fun _ => true) true n e (F i) = some (D i, Pl i) := by
    refine ⟨fun i => if h : i < len then (hmem i h).choose else [], fun i h => ?_⟩
    simp only [h, dif_pos]
    exact (hmem i h).choose_spec
  refine ⟨(List.range len).map F, by simp, fun k x hx => ?_, fun x hx => ?_⟩
  · have hk : k < len := by
      have := (List.getElem?_eq_some_iff.1 hx).1
      simpa using this
    simp [hk] at hx
    subst hx
    obtain ⟨hc, _⟩ := hF k hk
    obtain ⟨_, hcl, hat⟩ := World.cells?_some hc
    obtain ⟨b, off, spot⟩ := a'
    have hspot : spot = none := by
      obtain ⟨hc0, _⟩ := hF 0 (by omega)
      obtain ⟨_, hcl0, hat0⟩ := World.cells?_some hc0
      have h0 := hat0 0 hpos
      have hv : (F 0)[0]? = some ((F 0)[0]'(by omega)) := List.getElem?_eq_getElem (by omega)
      rw [hv] at h0
      simpa [Addr.add] using World.cell?_spot h0
    subst hspot
    refine ⟨b, off, rfl, hlt (.cell b off) (List.mem_append_left _ (MemPlace.mem_row.2 ⟨0, ?_, by simp⟩)), fun j v hv => ?_⟩
    · rw [hC]
      exact Nat.mul_pos (by omega) hpos
    · have hj : j < fs.size := by
        have := (List.getElem?_eq_some_iff.1 hv).1
        rw [hcl] at this
        exact this
      have h1 := hat j hj
      rw [hv, Go.Deep.add_add, plain_add] at h1
      rw [Nat.add_assoc]
      exact h1
  · rw [List.mem_map] at hx
    obtain ⟨i, hi', rfl⟩ := hx
    have hil : i < len := by simpa using hi'
    obtain ⟨hc, hT⟩ := hF i hil
    obtain ⟨ys, n', _, _, hlen, hyl, hfd⟩ := DataW.trod_struct he hT
    rw [hC] at hlen
    refine ⟨hlen, fun j f hj => ?_⟩
    obtain ⟨ho, hk⟩ := hone_of hone j f hj
    have hjl : j < fs.size := (Array.getElem?_eq_some_iff.1 hj).1
    have h1 := hfd j f hj
    rw [ho, hk, List.drop_eq_getElem_cons (by omega), List.take_succ_cons, List.take_zero] at h1
    have hys : ys[j]? = some (ys[j]'(by omega)) := List.getElem?_eq_getElem (by omega)
    exact ⟨_, _, n', List.getElem?_eq_getElem (by omega), h1.trans hys⟩

/-- By values of one's own. -/
theorem RecsIn.by {α : Type} [Inhabited α] {c : Nat} {f : α → List Value} {W : World} {a : Option Addr} {L : List (List Value)} (h : RecsIn c (fun x => x) W a L) (hf : ∀ x ∈ L, ∃ p, f p = x) : ∃ M : List α, M.length = L.length ∧ RecsIn c f W a M := by
  classical
  refine ⟨L.map fun x => if h : ∃ p, f p = x then h.choose else default, by simp, h.map _ fun x hx => ?_⟩
  simp only [hf x hx, dif_pos]
  exact (hf x hx).choose_spec
theorem list3 {α : Type} {x : List α} (h : x.length = 3) {a b c : α} (h0 : x[0]? = some a) (h1 : x[1]? = some b) (h2 : x[2]? = some c) : x = [a, b, c] := by
  match x, h with
  | [p, q, r], _ => simp at h0 h1 h2; rw [h0, h1, h2]
theorem list2 {α : Type} {x : List α} (h : x.length = 2) {a b : α} (h0 : x[0]? = some a) (h1 : x[1]? = some b) : x = [a, b] := by
  match x, h with
  | [p, q], _ => simp at h0 h1; rw [h0, h1]

end Go.Proofs.Ytabgedmocdjkcaa

namespace Go.Proofs.Ytabgedmocdjkcaa
open Go.RowKit

theorem info_at {P : Program} {t : TypeId} {z : Option Value} {size bytes : Nat} (h : (P.info? t).map (fun i => (i.zero, i.size, i.bytes)) = some (z, size, bytes)) : ∃ i, P.info? t = some i ∧ i.zero = z ∧ i.size = size ∧ i.bytes = bytes := by
  obtain ⟨i, hi, he⟩ := Option.map_eq_some_iff.1 h
  simp only [Prod.mk.injEq] at he
  exact ⟨i, hi, he.1, he.2.1, he.2.2⟩
theorem blk_apart {w : World} {t e : TypeId} {B base g n : Nat} {l : List Value} {v : Value} {xs : List Value} {size : Nat} (h : Blk t w B l) (ho : w.ownsRow base e size v n xs) (hg : v.ownBlock = some g) (hne : t ≠ e) : B ≠ g := by
  rintro rfl
  rcases ho.2 with ⟨rfl, _⟩ | ⟨g', cap, cur, rfl, _, h2, _⟩
  · simp [Value.ownBlock] at hg
  · simp [Value.ownBlock] at hg
    subst hg
    rw [show w.heap[g']? = _ from h] at h2
    cases h2
    exact hne rfl
theorem own_only {w w' : World} {S : Nat → Prop} {e : TypeId} {base n size : Nat} {v : Value} {xs : List Value} (h : w.ownsRow base e size v n xs) (ho : Only S w w') (hS : ∀ k, v.ownBlock = some k → ¬ S k) : w'.ownsRow base e size v n xs := by
  obtain ⟨h0, h1 | ⟨g, cap, cur, rfl, h1, h2, h3⟩⟩ := h
  · exact ⟨h0, .inl h1⟩
  · exact ⟨h0, .inr ⟨g, cap, cur, rfl, h1, (ho.block g (Array.getElem?_eq_some_iff.1 h2).1 (hS g rfl)).trans h2, h3⟩⟩
theorem grown_only {w w' : World} {row : Option Nat} (h : w.grownBy w' row) : Only (fun k => row = some k) w w' :=
  ⟨h.os, h.tape, h.output, h.size, fun k hk hn => h.block k hk (fun e => hn e.symm)⟩
theorem own_heap {w : World} {e : TypeId} {base n size g : Nat} {v : Value} {xs : List Value} (h : w.ownsRow base e size v n xs) (hg : v.ownBlock = some g) : ∃ l cap, v = .slice (some ⟨g, 0, none⟩) n cap ∧ base ≤ g ∧ Blk e w g l ∧ l.take (n * size) = xs ∧ n * size ≤ l.length := by
  obtain ⟨h0, ⟨rfl, _⟩ | ⟨g', cap, cur, rfl, h1, h2, h3, h4, h5, h6⟩⟩ := h
  · simp [Value.ownBlock] at hg
  · simp [Value.ownBlock] at hg
    subst hg
    exact ⟨cur.toList, cap, rfl, h1, by show w.heap[g']? = _; simpa using h2, h6, by rw [Array.length_toList, h5]; exact Nat.mul_le_mul_right _ h3⟩
theorem own_form {w : World} {e : TypeId} {base n size : Nat} {v : Value} {xs : List Value} (h : w.ownsRow base e size v n xs) : ∃ a c, v = .slice a n c := by
  obtain ⟨h0, ⟨rfl, rfl⟩ | ⟨g', cap, cur, rfl, _⟩⟩ := h
  · exact ⟨_, _, rfl⟩
  · exact ⟨_, _, rfl⟩
/-- One cell of a row, written. -/
theorem own_set {w : World} {base : Nat} {e : TypeId} {size g n k : Nat} {v : Value} {xs : List Value} (h : w.ownsRow base e size v n xs) (hg : v.ownBlock = some g) (u : Value) :
    (w.setCell ⟨g, k, none⟩ u).ownsRow base e size v n (xs.set k u) := by
  obtain ⟨h0, ⟨rfl, _⟩ | ⟨g', cap, cur, rfl, h2, h3, h4, h5, h6, h7⟩⟩ := h
  · simp [Value.ownBlock] at hg
  · simp [Value.ownBlock] at hg
    subst hg
    have hb : Blk e w g' cur.toList := by show w.heap[g']? = _; simpa using h3
    have hb' := hb.set k u
    refine ⟨by simpa using h0, .inr ⟨g', cap, (cur.toList.set k u).toArray, rfl, h2, hb', h4, h5, by simpa using h6, ?_⟩⟩
    rw [← h7]
    simp [List.take_set]

/-- A row of records, as the one list of their cells. -/
theorem recRow_flat {α : Type} {c : Nat} {f : α → List Value} (hf : ∀ x, (f x).length = c) : ∀ L : List α, RecRow c f (L.flatMap f) L
  | [] => ⟨by simp, fun i x hx => by simp at hx⟩
  | y :: L => by
    have ih := recRow_flat hf L
    refine ⟨by simp only [List.flatMap_cons, List.length_append, ih.len, hf, List.length_cons, Nat.add_mul]; omega, fun i x hx j v hv => ?_⟩
    have hj : j < c := by rw [← hf x]; exact (List.getElem?_eq_some_iff.1 hv).1
    rw [List.flatMap_cons]
    cases i with
    | zero =>
      simp at hx
      subst hx
      rw [Nat.zero_mul, Nat.zero_add, List.getElem?_append_left (by rw [hf]; exact hj)]
      exact hv
    | succ i =>
      simp at hx
      rw [List.getElem?_append_right (by rw [hf, Nat.add_mul]; omega), hf, show (i + 1) * c + j - c = i * c + j by rw [Nat.add_mul]; omega]
      exact ih.at_ i x hx j v hv
theorem RecRow.eq {α : Type} {c : Nat} (hc : 0 < c) {f : α → List Value} (hf : ∀ x, (f x).length = c) {l l' : List Value} {L : List α} (h : RecRow c f l L) (h' : RecRow c f l' L) : l = l' := by
  apply List.ext_getElem?
  intro m
  by_cases hm : m < L.length * c
  · have hi : m / c < L.length := Nat.div_lt_of_lt_mul (by rw [Nat.mul_comm]; exact hm)
    have hj : m % c < c := Nat.mod_lt _ hc
    have e : m = m / c * c + m % c := by rw [Nat.mul_comm]; exact (Nat.div_add_mod m c).symm
    have hx := List.getElem?_eq_getElem hi
    have hv : (f L[m / c])[m % c]? = some ((f L[m / c])[m % c]'(by rw [hf]; exact hj)) := List.getElem?_eq_getElem _
    have e1 := h.at_ _ _ hx _ _ hv
    have e2 := h'.at_ _ _ hx _ _ hv
    rw [← e] at e1 e2
    rw [e1, e2]
  · rw [List.getElem?_eq_none (by rw [h.len]; omega), List.getElem?_eq_none (by rw [h'.len]; omega)]
theorem RecRow.flat {α : Type} {c : Nat} (hc : 0 < c) {f : α → List Value} (hf : ∀ x, (f x).length = c) {l : List Value} {L : List α} (h : RecRow c f l L) : l = L.flatMap f := h.eq hc hf (recRow_flat hf L)
theorem flat_len {α : Type} {c : Nat} {f : α → List Value} (hf : ∀ x, (f x).length = c) (L : List α) : (L.flatMap f).length = L.length * c := (recRow_flat hf L).len
theorem flat_at {α : Type} {c : Nat} {f : α → List Value} (hf : ∀ x, (f x).length = c) {L : List α} {i j : Nat} {x : α} {v : Value} (hx : L[i]? = some x) (hv : (f x)[j]? = some v) : (L.flatMap f)[i * c + j]? = some v := (recRow_flat hf L).at_ i x hx j v hv

/-- A row of records of the call's own, read. -/
theorem recs_own {α : Type} {c : Nat} {f : α → List Value} (hf : ∀ x, (f x).length = c) {w : World} {base : Nat} {e : TypeId} {v : Value} {L : List α} (h : w.ownsRow base e c v L.length (L.flatMap f)) : ∃ a cap, v = .slice a L.length cap ∧ RecsIn c f w a L := by
  obtain ⟨a, cap, rfl⟩ := own_form h
  refine ⟨a, cap, rfl, fun k x hx => ?_⟩
  rcases h.2 with ⟨h1, h2⟩ | ⟨g, cap', cur, h1, h2, h3, h4, h5, h6, h7⟩
  · have := (List.getElem?_eq_some_iff.1 hx).1
    omega
  · cases h1
    refine ⟨g, 0, rfl, (Array.getElem?_eq_some_iff.1 h3).1, fun j u hu => ?_⟩
    have h8 := flat_at hf hx hu
    rw [← h7, List.getElem?_take] at h8
    split at h8
    · rw [World.cell?, Nat.zero_add]
      simp [h3]
      simpa using h8
    · cases h8

end Go.Proofs.Ytabgedmocdjkcaa
