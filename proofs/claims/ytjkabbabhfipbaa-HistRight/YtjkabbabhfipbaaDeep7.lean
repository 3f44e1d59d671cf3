/- A slice of structs that hold structs among a law's arguments, by the cells of its elements. Whatever program. -/
import Derived.Test.YtjkabbabhfipbaaRecs
namespace Go.Proofs.Ytjkabbabhfipbaa
open Go.ChangeShapes Go.WideShapes Go.ChangeAt Go.RowKit Go.Deep

section
variable {H : Type} {enc : TypeId × Value → H} {P : Program} {W : World}
/-- A struct that is read: its fields' cells are read. -/
theorem struct_segs {e : TypeId} {fs : Array Field} {n : Nat} {cs : List Value} {y : DataW H × List MemPlace} (he : P.underlying e = some (.struct fs)) (h : DataW.trod enc P W 0 (fun _ => true) true n e cs = some y) :
    cs.length = P.cellsOf e ∧ ∃ n', ∀ (j : Nat) (f : Field), fs[j]? = some f → ∃ y', DataW.trod enc P W 0 (fun _ => true) true n' f.type ((cs.drop f.offset).take (P.cellsOf f.type)) = some y' := by
  obtain ⟨ys, n', _, _, hlen, hyl, hfd⟩ := DataW.trod_struct he h
  refine ⟨hlen, n', fun j f hj => ?_⟩
  have hjl : j < fs.size := (Array.getElem?_eq_some_iff.1 hj).1
  exact ⟨ys[j]'(by omega), (hfd j f hj).trans (List.getElem?_eq_getElem (by omega))⟩
theorem seg_step (cs : List Value) (off k : Nat) : cs.drop off = (cs.drop off).take k ++ cs.drop (off + k) := by
  rw [← List.drop_drop, List.take_append_drop]
/-- Each element by a value of one's own. -/
theorem open_deep {α : Type} [Inhabited α] {c : Nat} {f : α → List Value} {good : α → Prop} {t e : TypeId} (ht : P.underlying t = some (.slice e)) (hC : P.cellsOf e = c) (hpos : 0 < c)
    (hel : ∀ n cs y, DataW.trod enc P W 0 (fun _ => true) true n e cs = some y → ∃ x : α, f x = cs ∧ good x)
    {a : Option Addr} {len cap : Nat} {d : DataW H} {ps : List MemPlace}
    (h : DataW.Trod enc P W 0 (fun _ => true) true t (.slice a len cap) d ps) (hlt : ∀ x ∈ ps, x.block < W.heap.size) :
    ∃ L : List α, L.length = len ∧ RecsIn c f W a L ∧ ∀ x ∈ L, good x := by
  obtain ⟨fuel, hf⟩ := h
  rcases open_slice ht hf with ⟨hcs, hx⟩ | ⟨a', len', cap', m, n, D, Pl, hcs, _, hl, hm, hmm, hx, hi⟩
  · simp [Value.cells] at hcs
    obtain ⟨rfl, rfl, rfl⟩ := hcs
    exact ⟨[], rfl, fun k x hx => by simp at hx, fun x hx => by simp at hx⟩
  simp [Value.cells] at hcs
  obtain ⟨rfl, rfl, rfl⟩ := hcs
  simp only [if_true] at hmm
  simp only [Prod.mk.injEq] at hx
  obtain ⟨rfl, rfl⟩ := hx
  have hmem : ∀ i, i < len → ∃ x : α, W.cells? 0 (a'.add (i * c)) c = some (f x) ∧ good x := fun i h => by
    obtain ⟨cs', h1, h2⟩ := hi i (by omega)
    obtain ⟨x, hx, hg⟩ := hel _ _ _ h2
    exact ⟨x, by rw [← hC, hx]; exact h1, hg⟩
  obtain ⟨F, hF⟩ : ∃ F : Nat → α, ∀ i, i < len → W.cells? 0 (a'.add (i * c)) c = some (f (F i)) ∧ good (F i) := by
    classical
    refine ⟨fun i => if h : i < len then (hmem i h).choose else default, fun i h => ?_⟩
    simp only [h, dif_pos]
    exact (hmem i h).choose_spec
  refine ⟨(List.range len).map F, by simp, fun k x hx => ?_, fun x hx => ?_⟩
  · have hk : k < len := by
      have := (List.getElem?_eq_some_iff.1 hx).1
      simpa using this
    simp [hk] at hx
    subst hx
    obtain ⟨hc, _⟩ := hF k hk
    obtain ⟨_, hcl, hat⟩ := World.cells?_some hc
    obtain ⟨b, off, spot⟩ := a'
    have hspot : spot = none := by
      obtain ⟨hc0, _⟩ := hF 0 (by omega)
      obtain ⟨_, hcl0, hat0⟩ := World.cells?_some hc0
      have h0 := hat0 0 hpos
      have hv : (f (F 0))[0]? = some ((f (F 0))[0]'(by omega)) := List.getElem?_eq_getElem (by omega)
      rw [hv] at h0
      simpa [Addr.add] using World.cell?_spot h0
    subst hspot
    refine ⟨b, off, rfl, hlt (.cell b off) (List.mem_append_left _ (MemPlace.mem_row.2 ⟨0, ?_, by simp⟩)), fun j v hv => ?_⟩
    · rw [hC]
      exact Nat.mul_pos (by omega) hpos
    · have hj : j < c := by
        have := (List.getElem?_eq_some_iff.1 hv).1
        rw [hcl] at this
        exact this
      have h1 := hat j hj
      rw [hv, Go.Deep.add_add, plain_add] at h1
      rw [Nat.add_assoc]
      exact h1
  · rw [List.mem_map] at hx
    obtain ⟨i, hi', rfl⟩ := hx
    exact (hF i (by simpa using hi')).2
end

end Go.Proofs.Ytjkabbabhfipbaa
