/- Layer 7: calls and events among a law's arguments. -/
import Derived.Test.YtjkabbabhfipbaaDeep7
import Derived.Test.YtjkabbabhfipbaaTime7
import Derived.Test.YtjkabbabhfipbaaPlays7
namespace Go.Proofs.Ytjkabbabhfipbaa
open Go.ChangeShapes Go.WideShapes Go.ChangeAt Go.RowKit Go.Deep

section
variable {H : Type} {enc : TypeId × Value → H} {W : World}
theorem co3 : Try.prog.cellsOf 3 = 1 := by kernel_rfl
theorem co9 : Try.prog.cellsOf 9 = 1 := by kernel_rfl
theorem co4 : Try.prog.cellsOf 4 = 1 := by kernel_rfl
theorem coE : Try.prog.cellsOf 32 = 1 := by kernel_rfl
theorem coO : Try.prog.cellsOf 31 = 5 := by kernel_rfl
theorem coM : Try.prog.cellsOf 34 = 3 := by kernel_rfl
theorem coA : Try.prog.cellsOf 36 = 6 := by kernel_rfl
theorem coC : Try.prog.cellsOf 42 = 15 := by kernel_rfl
theorem coV : Try.prog.cellsOf 38 = 14 := by kernel_rfl
theorem read_op {n : Nat} {cs : List Value} {y : DataW H × List MemPlace} (h : DataW.trod enc Try.prog W 0 (fun _ => true) true n 31 cs = some y) : ∃ x : OpZ, opV x = cs := by
  obtain ⟨hlen, n', hf⟩ := struct_segs Try.underlying31 h
  obtain ⟨y0, t0⟩ := hf 0 _ rfl
  obtain ⟨y1, t1⟩ := hf 1 _ rfl
  obtain ⟨y2, t2⟩ := hf 2 _ rfl
  obtain ⟨y3, t3⟩ := hf 3 _ rfl
  obtain ⟨y4, t4⟩ := hf 4 _ rfl
  obtain ⟨z0, c0, _, w0⟩ := DataW.trod_int Try.underlying3 t0
  obtain ⟨z1, c1, _, w1⟩ := DataW.trod_int Try.underlying3 t1
  obtain ⟨z2, c2, _⟩ := DataW.trod_string Try.underlying9 t2
  obtain ⟨z3, c3, _⟩ := DataW.trod_string Try.underlying9 t3
  obtain ⟨z4, c4, _⟩ := DataW.trod_bool Try.underlying4 t4
  have c0 : (cs.drop (0)).take (Try.prog.cellsOf 3) = _ := c0
  rw [co3] at c0
  have c1 : (cs.drop (0 + 1)).take (Try.prog.cellsOf 3) = _ := c1
  rw [co3] at c1
  have c2 : (cs.drop (0 + 1 + 1)).take (Try.prog.cellsOf 9) = _ := c2
  rw [co9] at c2
  have c3 : (cs.drop (0 + 1 + 1 + 1)).take (Try.prog.cellsOf 9) = _ := c3
  rw [co9] at c3
  have c4 : (cs.drop (0 + 1 + 1 + 1 + 1)).take (Try.prog.cellsOf 4) = _ := c4
  rw [co4] at c4
  rw [coO] at hlen
  refine ⟨⟨z0, z1, z2, z3, z4⟩, ?_⟩
  have e : cs = cs.drop 0 := rfl
  rw [e, seg_step cs (0) 1, c0, seg_step cs (0 + 1) 1, c1, seg_step cs (0 + 1 + 1) 1, c2, seg_step cs (0 + 1 + 1 + 1) 1, c3, seg_step cs (0 + 1 + 1 + 1 + 1) 1, c4, List.drop_of_length_le (by omega)]
  rfl
theorem read_msg {n : Nat} {cs : List Value} {y : DataW H × List MemPlace} (h : DataW.trod enc Try.prog W 0 (fun _ => true) true n 34 cs = some y) : ∃ (t p : ByteArray) (k : Bool), [.string t, .string p, .bool k] = cs := by
  obtain ⟨hlen, n', hf⟩ := struct_segs Try.underlying34 h
  obtain ⟨y0, t0⟩ := hf 0 _ rfl
  obtain ⟨y1, t1⟩ := hf 1 _ rfl
  obtain ⟨y2, t2⟩ := hf 2 _ rfl
  obtain ⟨z0, c0, _⟩ := DataW.trod_string Try.underlying9 t0
  obtain ⟨z1, c1, _⟩ := DataW.trod_string Try.underlying9 t1
  obtain ⟨z2, c2, _⟩ := DataW.trod_bool Try.underlying4 t2
  have c0 : (cs.drop (0)).take (Try.prog.cellsOf 9) = _ := c0
  rw [co9] at c0
  have c1 : (cs.drop (0 + 1)).take (Try.prog.cellsOf 9) = _ := c1
  rw [co9] at c1
  have c2 : (cs.drop (0 + 1 + 1)).take (Try.prog.cellsOf 4) = _ := c2
  rw [co4] at c2
  rw [coM] at hlen
  refine ⟨z0, z1, z2, ?_⟩
  have e : cs = cs.drop 0 := rfl
  rw [e, seg_step cs (0) 1, c0, seg_step cs (0 + 1) 1, c1, seg_step cs (0 + 1 + 1) 1, c2, List.drop_of_length_le (by omega)]
  rfl
theorem read_an {n : Nat} {cs : List Value} {y : DataW H × List MemPlace} (h : DataW.trod enc Try.prog W 0 (fun _ => true) true n 36 cs = some y) : ∃ x : AnZ, anV x = cs := by
  obtain ⟨hlen, n', hf⟩ := struct_segs Try.underlying36 h
  obtain ⟨y0, t0⟩ := hf 0 _ rfl
  obtain ⟨y1, t1⟩ := hf 1 _ rfl
  obtain ⟨y2, t2⟩ := hf 2 _ rfl
  obtain ⟨y3, t3⟩ := hf 3 _ rfl
  obtain ⟨z0, c0, _, w0⟩ := DataW.trod_int Try.underlying32 t0
  obtain ⟨z1, c1, _, w1⟩ := DataW.trod_int Try.underlying3 t1
  obtain ⟨z2, c2, _, w2⟩ := DataW.trod_int Try.underlying3 t2
  obtain ⟨p3, q3, r3, c3⟩ := read_msg t3
  have c0 : (cs.drop (0)).take (Try.prog.cellsOf 32) = _ := c0
  rw [coE] at c0
  have c1 : (cs.drop (0 + 1)).take (Try.prog.cellsOf 3) = _ := c1
  rw [co3] at c1
  have c2 : (cs.drop (0 + 1 + 1)).take (Try.prog.cellsOf 3) = _ := c2
  rw [co3] at c2
  have c3 : _ = (cs.drop (0 + 1 + 1 + 1)).take (Try.prog.cellsOf 34) := c3
  rw [coM] at c3
  rw [coA] at hlen
  refine ⟨⟨z0, z1, z2, p3, q3, r3⟩, ?_⟩
  have e : cs = cs.drop 0 := rfl
  rw [e, seg_step cs (0) 1, c0, seg_step cs (0 + 1) 1, c1, seg_step cs (0 + 1 + 1) 1, c2, seg_step cs (0 + 1 + 1 + 1) 3, ← c3, List.drop_of_length_le (by omega)]
  rfl
theorem read_call {n : Nat} {cs : List Value} {y : DataW H × List MemPlace} (h : DataW.trod enc Try.prog W 0 (fun _ => true) true n 42 cs = some y) : ∃ x : CallZ, callV x = cs ∧ (wf64 x.th ∧ wf64 x.pl ∧ wf64 x.fr ∧ wf64 x.to) := by
  obtain ⟨hlen, n', hf⟩ := struct_segs Try.underlying42 h
  obtain ⟨y0, t0⟩ := hf 0 _ rfl
  obtain ⟨y1, t1⟩ := hf 1 _ rfl
  obtain ⟨y2, t2⟩ := hf 2 _ rfl
  obtain ⟨y3, t3⟩ := hf 3 _ rfl
  obtain ⟨y4, t4⟩ := hf 4 _ rfl
  obtain ⟨y5, t5⟩ := hf 5 _ rfl
  obtain ⟨z0, c0, _, w0⟩ := DataW.trod_int Try.underlying3 t0
  obtain ⟨z1, c1, _, w1⟩ := DataW.trod_int Try.underlying3 t1
  obtain ⟨z2, c2⟩ := read_op t2
  obtain ⟨z3, c3⟩ := read_an t3
  obtain ⟨z4, c4, _, w4⟩ := DataW.trod_int Try.underlying3 t4
  obtain ⟨z5, c5, _, w5⟩ := DataW.trod_int Try.underlying3 t5
  have c0 : (cs.drop (0)).take (Try.prog.cellsOf 3) = _ := c0
  rw [co3] at c0
  have c1 : (cs.drop (0 + 1)).take (Try.prog.cellsOf 3) = _ := c1
  rw [co3] at c1
  have c2 : _ = (cs.drop (0 + 1 + 1)).take (Try.prog.cellsOf 31) := c2
  rw [coO] at c2
  have c3 : _ = (cs.drop (0 + 1 + 1 + 5)).take (Try.prog.cellsOf 36) := c3
  rw [coA] at c3
  have c4 : (cs.drop (0 + 1 + 1 + 5 + 6)).take (Try.prog.cellsOf 3) = _ := c4
  rw [co3] at c4
  have c5 : (cs.drop (0 + 1 + 1 + 5 + 6 + 1)).take (Try.prog.cellsOf 3) = _ := c5
  rw [co3] at c5
  rw [coC] at hlen
  refine ⟨⟨z0, z1, z2, z3, z4, z5⟩, ?_, w0, w1, w4, w5⟩
  have e : cs = cs.drop 0 := rfl
  rw [e, seg_step cs (0) 1, c0, seg_step cs (0 + 1) 1, c1, seg_step cs (0 + 1 + 1) 5, ← c2, seg_step cs (0 + 1 + 1 + 5) 6, ← c3, seg_step cs (0 + 1 + 1 + 5 + 6) 1, c4, seg_step cs (0 + 1 + 1 + 5 + 6 + 1) 1, c5, List.drop_of_length_le (by omega)]
  rfl
theorem read_ev {n : Nat} {cs : List Value} {y : DataW H × List MemPlace} (h : DataW.trod enc Try.prog W 0 (fun _ => true) true n 38 cs = some y) : ∃ x : EvZ, evV x = cs ∧ wf64 x.th := by
  obtain ⟨hlen, n', hf⟩ := struct_segs Try.underlying38 h
  obtain ⟨y0, t0⟩ := hf 0 _ rfl
  obtain ⟨y1, t1⟩ := hf 1 _ rfl
  obtain ⟨y2, t2⟩ := hf 2 _ rfl
  obtain ⟨y3, t3⟩ := hf 3 _ rfl
  obtain ⟨y4, t4⟩ := hf 4 _ rfl
  obtain ⟨z0, c0, _⟩ := DataW.trod_bool Try.underlying4 t0
  obtain ⟨z1, c1, _, w1⟩ := DataW.trod_int Try.underlying3 t1
  obtain ⟨z2, c2, _, w2⟩ := DataW.trod_int Try.underlying3 t2
  obtain ⟨z3, c3⟩ := read_op t3
  obtain ⟨z4, c4⟩ := read_an t4
  have c0 : (cs.drop (0)).take (Try.prog.cellsOf 4) = _ := c0
  rw [co4] at c0
  have c1 : (cs.drop (0 + 1)).take (Try.prog.cellsOf 3) = _ := c1
  rw [co3] at c1
  have c2 : (cs.drop (0 + 1 + 1)).take (Try.prog.cellsOf 3) = _ := c2
  rw [co3] at c2
  have c3 : _ = (cs.drop (0 + 1 + 1 + 1)).take (Try.prog.cellsOf 31) := c3
  rw [coO] at c3
  have c4 : _ = (cs.drop (0 + 1 + 1 + 1 + 5)).take (Try.prog.cellsOf 36) := c4
  rw [coA] at c4
  rw [coV] at hlen
  refine ⟨⟨z0, z1, z2, z3, z4⟩, ?_, w1⟩
  have e : cs = cs.drop 0 := rfl
  rw [e, seg_step cs (0) 1, c0, seg_step cs (0 + 1) 1, c1, seg_step cs (0 + 1 + 1) 1, c2, seg_step cs (0 + 1 + 1 + 1) 5, ← c3, seg_step cs (0 + 1 + 1 + 1 + 5) 6, ← c4, List.drop_of_length_le (by omega)]
  rfl
theorem open_calls {a : Option Addr} {len cap : Nat} {d : DataW H} {ps : List MemPlace} (h : DataW.Trod enc Try.prog W 0 (fun _ => true) true 27 (.slice a len cap) d ps) (hlt : ∀ x ∈ ps, x.block < W.heap.size) :
    ∃ L : List CallZ, L.length = len ∧ (RecsIn 15 callV W a L ∧ WfCalls L) :=
  open_deep Try.underlying27 coC (by decide) (fun _ _ _ h => read_call h) h hlt
theorem open_events {a : Option Addr} {len cap : Nat} {d : DataW H} {ps : List MemPlace} (h : DataW.Trod enc Try.prog W 0 (fun _ => true) true 22 (.slice a len cap) d ps) (hlt : ∀ x ∈ ps, x.block < W.heap.size) :
    ∃ L : List EvZ, L.length = len ∧ (RecsIn 14 evV W a L ∧ ∀ x ∈ L, wf64 x.th) :=
  open_deep Try.underlying22 coV (by decide) (fun _ _ _ h => read_ev h) h hlt
end

end Go.Proofs.Ytjkabbabhfipbaa
