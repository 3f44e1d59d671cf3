/- A slice of structs that hold structs among a law's arguments, by the cells of its elements. Whatever program. · Calls among a law's arguments. -/
import Derived.Test.YthngehpmoiojfaaRecs
import Derived.Test.YthngehpmoiojfaaTime7
import Derived.Test.YthngehpmoiojfaaHist7
namespace Go.Proofs.Ythngehpmoiojfaa
open Go.ChangeShapes Go.WideShapes Go.ChangeAt Go.RowKit Go.Deep

section
variable {H : Type} {enc : TypeId × Value → H} {P : Program} {W : World}
/-- A struct that is read: its fields' cells are read. -/
theorem struct_segs {e : TypeId} {fs : Array Field} {n : Nat} {cs : List Value} {y : DataW H × List MemPlace} (he : P.underlying e = some (.struct fs)) (h : DataW.trod enc P W 0 (fun _ => true) true n e cs = some y) :
    cs.length = P.cellsOf e ∧ ∃ n', ∀ (j : Nat) (f : Field), fs[j]? = some f → ∃ y', DataW.trod enc P W 0 (fun _ => true) true n' f.type ((cs.drop f.offset).take (P.cellsOf f.type)) = some y' := by
  obtain ⟨ys, n', _, _, hlen, hyl, hfd⟩ := DataW.trod_struct he h
  refine ⟨hlen, n', fun j f hj => ?_⟩
  have hjl : j < fs.size := (Array.getElem?_eq_some_iff.1 hj).1
  exact ⟨ys[j]'(by omega), (hfd j f hj).trans (List.getElem?_eq_getElem (by omega))⟩
theorem seg_step (cs : List Value) (off k : Nat) : cs.drop off = (cs.drop off).take k ++ cs.drop (off + k) := by
  rw [← List.drop_drop, List.take_append_drop]
/-- Each element by a value of one's own. -/
theorem open_deep {α : Type} [Inhabited α] {c : Nat} {f : α → List Value} {good : α → Prop} {t e : TypeId} (ht : P.underlying t = some (.slice e)) (hC : P.cellsOf e = c) (hpos : 0 < c)
    (hel : ∀ n cs y, DataW.trod enc P W 0 (fun _ => true) true n e cs = some y → ∃ x : α, f x = cs ∧ good x)
    {a : Option Addr} {len cap : Nat} {d : DataW H} {ps : List MemPlace}
    (h : DataW.Trod enc P W 0 (fun _ => true) true t (.slice a len cap) d ps) (hlt : ∀ x ∈ ps, x.block < W.heap.size) :
    ∃ L : List α, L.length = len ∧ RecsIn c f W a L ∧ ∀ x ∈ L, good x := by
  obtain ⟨fuel, hf⟩ := h
  rcases open_slice ht hf with ⟨hcs, hx⟩ | ⟨a', len', cap', m, n, D, Pl, hcs, _, hl, hm, hmm, hx, hi⟩
  · simp [Value.cells] at hcs
    obtain ⟨rfl, rfl, rfl⟩ := hcs
    exact ⟨[], rfl, fun k x hx => by simp at hx, fun x hx => by simp at hx⟩
  simp [Value.cells] at hcs
  obtain ⟨rfl, rfl, rfl⟩ := hcs
  simp only [if_true] at hmm
  simp only [Prod.mk.injEq] at hx
  obtain ⟨rfl, rfl⟩ := hx
  have hmem : ∀ i, i < len → ∃ x : α, W.cells? 0 (a'.add (i * c)) c = some (f x) ∧ good x := fun i h => by
    obtain ⟨cs', h1, h2⟩ := hi i (by omega)
    obtain ⟨x, hx, hg⟩ := hel _ _ _ h2
    exact ⟨x, by rw [← hC, hx]; exact h1, hg⟩
  obtain ⟨F, hF⟩ : ∃ F : Nat → α, ∀ i, i < len → W.cells? 0 (a'.add (i * c)) c = some (f (F i)) ∧ good (F i) := by
    classical
    refine ⟨fun i => if h : i < len then (hmem i h).choose else default, fun i h => ?_⟩
    simp only [h, dif_pos]
    exact (hmem i h).choose_spec
  refine ⟨(List.range len).map F, by simp, fun k x hx => ?_, fun x hx => ?_⟩
  · have hk : k < len := by
      have := (List.getElem?_eq_some_iff.1 hx).1
      simpa using this
    simp [hk] at hx
    subst hx
    obtain ⟨hc, _⟩ := hF k hk
    obtain ⟨_, hcl, hat⟩ := World.cells?_some hc
    obtain ⟨b, off, spot⟩ := a'
    have hspot : spot = none := by
      obtain ⟨hc0, _⟩ := hF 0 (by omega)
      obtain ⟨_, hcl0, hat0⟩ := World.cells?_some hc0
      have h0 := hat0 0 hpos
      have hv : (f (F 0))[0]? = some ((f (F 0))[0]'(by omega)) := List.getElem?_eq_getElem (by omega)
      rw [hv] at h0
      simpa [Addr.add] using World.cell?_spot h0
    subst hspot
    refine ⟨b, off, rfl, hlt (.cell b off) (List.mem_append_left _ (MemPlace.mem_row.2 ⟨0, ?_, by simp⟩)), fun j v hv => ?_⟩
    · rw [hC]
      exact Nat.mul_pos (by omega) hpos
    · have hj : j < c := by
        have := (List.getElem?_eq_some_iff.1 hv).1
        rw [hcl] at this
        exact this
      have h1 := hat j hj
      rw [hv, Go.Deep.add_add, plain_add] at h1
      rw [Nat.add_assoc]
      exact h1
  · rw [List.mem_map] at hx
    obtain ⟨i, hi', rfl⟩ := hx
    exact (hF i (by simpa using hi')).2
end

end Go.Proofs.Ythngehpmoiojfaa

namespace Go.Proofs.Ythngehpmoiojfaa
open Go.ChangeShapes Go.WideShapes Go.ChangeAt Go.RowKit Go.Deep

section
variable {H : Type} {enc : TypeId × Value → H} {W : World}
theorem co3 : Try.prog.cellsOf 3 = 1 := by kernel_rfl
theorem co9 : Try.prog.cellsOf 9 = 1 := by kernel_rfl
theorem co4 : Try.prog.cellsOf 4 = 1 := by kernel_rfl
theorem coE : Try.prog.cellsOf 28 = 1 := by kernel_rfl
theorem coO : Try.prog.cellsOf 27 = 5 := by kernel_rfl
theorem coM : Try.prog.cellsOf 30 = 3 := by kernel_rfl
theorem coA : Try.prog.cellsOf 32 = 6 := by kernel_rfl
theorem coC : Try.prog.cellsOf 34 = 15 := by kernel_rfl
theorem read_op {n : Nat} {cs : List Value} {y : DataW H × List MemPlace} (h : DataW.trod enc Try.prog W 0 (fun _ => true) true n 27 cs = some y) : ∃ x : OpZ, opV x = cs := by
  obtain ⟨hlen, n', hf⟩ := struct_segs Try.underlying27 h
  obtain ⟨y0, t0⟩ := hf 0 _ rfl
  obtain ⟨y1, t1⟩ := hf 1 _ rfl
  obtain ⟨y2, t2⟩ := hf 2 _ rfl
  obtain ⟨y3, t3⟩ := hf 3 _ rfl
  obtain ⟨y4, t4⟩ := hf 4 _ rfl
  obtain ⟨z0, c0, _, w0⟩ := DataW.trod_int Try.underlying3 t0
  obtain ⟨z1, c1, _, w1⟩ := DataW.trod_int Try.underlying3 t1
  obtain ⟨z2, c2, _⟩ := DataW.trod_string Try.underlying9 t2
  obtain ⟨z3, c3, _⟩ := DataW.trod_string Try.underlying9 t3
  obtain ⟨z4, c4, _⟩ := DataW.trod_bool Try.underlying4 t4
  have c0 : (cs.drop (0)).take (Try.prog.cellsOf 3) = _ := c0
  rw [co3] at c0
  have c1 : (cs.drop (0 + 1)).take (Try.prog.cellsOf 3) = _ := c1
  rw [co3] at c1
  have c2 : (cs.drop (0 + 1 + 1)).take (Try.prog.cellsOf 9) = _ := c2
  rw [co9] at c2
  have c3 : (cs.drop (0 + 1 + 1 + 1)).take (Try.prog.cellsOf 9) = _ := c3
  rw [co9] at c3
  have c4 : (cs.drop (0 + 1 + 1 + 1 + 1)).take (Try.prog.cellsOf 4) = _ := c4
  rw [co4] at c4
  rw [coO] at hlen
  refine ⟨⟨z0, z1, z2, z3, z4⟩, ?_⟩
  have e : cs = cs.drop 0 := rfl
  rw [e, seg_step cs (0) 1, c0, seg_step cs (0 + 1) 1, c1, seg_step cs (0 + 1 + 1) 1, c2, seg_step cs (0 + 1 + 1 + 1) 1, c3, seg_step cs (0 + 1 + 1 + 1 + 1) 1, c4, List.drop_of_length_le (by omega)]
  rfl
theorem read_msg {n : Nat} {cs : List Value} {y : DataW H × List MemPlace} (h : DataW.trod enc Try.prog W 0 (fun _ => true) true n 30 cs = some y) : ∃ (t p : ByteArray) (k : Bool), [.string t, .string p, .bool k] = cs := by
  obtain ⟨hlen, n', hf⟩ := struct_segs Try.underlying30 h
  obtain ⟨y0, t0⟩ := hf 0 _ rfl
  obtain ⟨y1, t1⟩ := hf 1 _ rfl
  obtain ⟨y2, t2⟩ := hf 2 _ rfl
  obtain ⟨z0, c0, _⟩ := DataW.trod_string Try.underlying9 t0
  obtain ⟨z1, c1, _⟩ := DataW.trod_string Try.underlying9 t1
  obtain ⟨z2, c2, _⟩ := DataW.trod_bool Try.underlying4 t2
  have c0 : (cs.drop (0)).take (Try.prog.cellsOf 9) = _ := c0
  rw [co9] at c0
  have c1 : (cs.drop (0 + 1)).take (Try.prog.cellsOf 9) = _ := c1
  rw [co9] at c1
  have c2 : (cs.drop (0 + 1 + 1)).take (Try.prog.cellsOf 4) = _ := c2
  rw [co4] at c2
  rw [coM] at hlen
  refine ⟨z0, z1, z2, ?_⟩
  have e : cs = cs.drop 0 := rfl
  rw [e, seg_step cs (0) 1, c0, seg_step cs (0 + 1) 1, c1, seg_step cs (0 + 1 + 1) 1, c2, List.drop_of_length_le (by omega)]
  rfl
theorem read_an {n : Nat} {cs : List Value} {y : DataW H × List MemPlace} (h : DataW.trod enc Try.prog W 0 (fun _ => true) true n 32 cs = some y) : ∃ x : AnZ, anV x = cs := by
  obtain ⟨hlen, n', hf⟩ := struct_segs Try.underlying32 h
  obtain ⟨y0, t0⟩ := hf 0 _ rfl
  obtain ⟨y1, t1⟩ := hf 1 _ rfl
  obtain ⟨y2, t2⟩ := hf 2 _ rfl
  obtain ⟨y3, t3⟩ := hf 3 _ rfl
  obtain ⟨z0, c0, _, w0⟩ := DataW.trod_int Try.underlying28 t0
  obtain ⟨z1, c1, _, w1⟩ := DataW.trod_int Try.underlying3 t1
  obtain ⟨z2, c2, _, w2⟩ := DataW.trod_int Try.underlying3 t2
  obtain ⟨p3, q3, r3, c3⟩ := read_msg t3
  have c0 : (cs.drop (0)).take (Try.prog.cellsOf 28) = _ := c0
  rw [coE] at c0
  have c1 : (cs.drop (0 + 1)).take (Try.prog.cellsOf 3) = _ := c1
  rw [co3] at c1
  have c2 : (cs.drop (0 + 1 + 1)).take (Try.prog.cellsOf 3) = _ := c2
  rw [co3] at c2
  have c3 : _ = (cs.drop (0 + 1 + 1 + 1)).take (Try.prog.cellsOf 30) := c3
  rw [coM] at c3
  rw [coA] at hlen
  refine ⟨⟨z0, z1, z2, p3, q3, r3⟩, ?_⟩
  have e : cs = cs.drop 0 := rfl
  rw [e, seg_step cs (0) 1, c0, seg_step cs (0 + 1) 1, c1, seg_step cs (0 + 1 + 1) 1, c2, seg_step cs (0 + 1 + 1 + 1) 3, ← c3, List.drop_of_length_le (by omega)]
  rfl
theorem read_call {n : Nat} {cs : List Value} {y : DataW H × List MemPlace} (h : DataW.trod enc Try.prog W 0 (fun _ => true) true n 34 cs = some y) : ∃ x : CallZ, callV x = cs ∧ (wf64 x.th ∧ wf64 x.pl ∧ wf64 x.fr ∧ wf64 x.to) := by
  obtain ⟨hlen, n', hf⟩ := struct_segs Try.underlying34 h
  obtain ⟨y0, t0⟩ := hf 0 _ rfl
  obtain ⟨y1, t1⟩ := hf 1 _ rfl
  obtain ⟨y2, t2⟩ := hf 2 _ rfl
  obtain ⟨y3, t3⟩ := hf 3 _ rfl
  obtain ⟨y4, t4⟩ := hf 4 _ rfl
  obtain ⟨y5, t5⟩ := hf 5 _ rfl
  obtain ⟨z0, c0, _, w0⟩ := DataW.trod_int Try.underlying3 t0
  obtain ⟨z1, c1, _, w1⟩ := DataW.trod_int Try.underlying3 t1
  obtain ⟨z2, c2⟩ := read_op t2
  obtain ⟨z3, c3⟩ := read_an t3
  obtain ⟨z4, c4, _, w4⟩ := DataW.trod_int Try.underlying3 t4
  obtain ⟨z5, c5, _, w5⟩ := DataW.trod_int Try.underlying3 t5
  have c0 : (cs.drop (0)).take (Try.prog.cellsOf 3) = _ := c0
  rw [co3] at c0
  have c1 : (cs.drop (0 + 1)).take (Try.prog.cellsOf 3) = _ := c1
  rw [co3] at c1
  have c2 : _ = (cs.drop (0 + 1 + 1)).take (Try.prog.cellsOf 27) := c2
  rw [coO] at c2
  have c3 : _ = (cs.drop (0 + 1 + 1 + 5)).take (Try.prog.cellsOf 32) := c3
  rw [coA] at c3
  have c4 : (cs.drop (0 + 1 + 1 + 5 + 6)).take (Try.prog.cellsOf 3) = _ := c4
  rw [co3] at c4
  have c5 : (cs.drop (0 + 1 + 1 + 5 + 6 + 1)).take (Try.prog.cellsOf 3) = _ := c5
  rw [co3] at c5
  rw [coC] at hlen
  refine ⟨⟨z0, z1, z2, z3, z4, z5⟩, ?_, w0, w1, w4, w5⟩
  have e : cs = cs.drop 0 := rfl
  rw [e, seg_step cs (0) 1, c0, seg_step cs (0 + 1) 1, c1, seg_step cs (0 + 1 + 1) 5, ← c2, seg_step cs (0 + 1 + 1 + 5) 6, ← c3, seg_step cs (0 + 1 + 1 + 5 + 6) 1, c4, seg_step cs (0 + 1 + 1 + 5 + 6 + 1) 1, c5, List.drop_of_length_le (by omega)]
  rfl
theorem open_calls {a : Option Addr} {len cap : Nat} {d : DataW H} {ps : List MemPlace} (h : DataW.Trod enc Try.prog W 0 (fun _ => true) true 22 (.slice a len cap) d ps) (hlt : ∀ x ∈ ps, x.block < W.heap.size) :
    ∃ L : List CallZ, L.length = len ∧ (RecsIn 15 callV W a L ∧ WfCalls L) :=
  open_deep Try.underlying22 coC (by decide) (fun _ _ _ h => read_call h) h hlt
end

end Go.Proofs.Ythngehpmoiojfaa
