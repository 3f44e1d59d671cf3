/- Layer 11: the example; nil rings. -/
import Derived.Test.YtmonfkiakjaimaaRingC11
namespace Go.Proofs.Ytmonfkiakjaimaa
open Go.RowKit

set_option maxHeartbeats 1000000 in
theorem awake11 (w : World) : Calls Try.prog 7 #[] w fun e w' => e = .returned (.bool true) ∧ Below w.heap.size w w' := by
  have hlow : ∀ i, i < w.heap.size → ¬ RgBlk (w.heap.size + 1) w.heap.size i := fun i hi e => by
    rcases e with e | e <;> omega
  have HL := Lib.hid hlow
  clear hlow
  go_enter Try.func7, Try.ntmps7
  go_wp2_with fail
  refine (rg_New 1 w).mono ?_
  rintro e w1 ⟨rfl, h1, b1⟩
  have H1 : Hid (RgIs w1 (w.heap.size + 1) w.heap.size ⟨1, 0, 0, []⟩) := Lib.hid h1
  have B1 := Lib.hid b1
  clear h1 b1
  go_wp2_with fail
  refine (rg_Put_yes H1.out (by simp) (by simp) 1).mono ?_
  rintro e w2 ⟨rfl, h2, o2⟩
  have H2 : Hid (RgIs w2 (w.heap.size + 1) w.heap.size ⟨1, 0, 0, [1]⟩) := Lib.hid h2
  have B2 := Lib.hid (Only.below_step B1.out.size B1.out o2 (fun i hi e => HL.out i hi e))
  clear h2 o2
  go_wp2_with fail
  refine (rg_Put_no H2.out (by simp) (by simp) (by simp) 2).mono ?_
  rintro e w3 ⟨rfl, h3, o3⟩
  have H3 : Hid (RgIs w3 (w.heap.size + 1) w.heap.size ⟨1, 0, 1, [1]⟩) := Lib.hid h3
  have B3 := Lib.hid (Only.below_step B2.out.size B2.out o3 (fun i hi e => HL.out i hi e))
  clear h3 o3
  go_wp2_with fail
  refine (rg_Get_yes H3.out (by simp) rfl).mono ?_
  rintro e w4 ⟨rfl, h4, o4⟩
  have H4 : Hid (RgIs w4 (w.heap.size + 1) w.heap.size ⟨1, 1, 1, []⟩) := Lib.hid h4
  have B4 := Lib.hid (Only.below_step B3.out.size B3.out o4 (fun i hi e => HL.out i hi e))
  clear h4 o4
  go_wp2_with fail
  refine (rg_Drops H4.out).mono ?_
  rintro e w' ⟨rfl, rfl⟩
  go_wp2
  go_ret
  exact ⟨rfl, B4.out⟩
set_option maxHeartbeats 1000000 in
theorem none11 (x : Int) (w : World) : Calls Try.prog 5 #[.int .i64 x] w fun e w' => e = .returned (.bool true) ∧ Below w.heap.size w w' := by
  go_enter Try.func5, Try.ntmps5
  go_wp2_with fail
  refine (awake11 w).mono ?_
  rintro e w1 ⟨rfl, hb⟩
  have B1 := Lib.hid hb
  clear hb
  go_wp2_with fail
  refine (rg_Get_nil w1).mono ?_
  rintro e w' ⟨rfl, rfl⟩
  go_wp2_with fail
  refine (rg_Put_nil x w1).mono ?_
  rintro e w' ⟨rfl, rfl⟩
  go_wp2_with fail
  refine (rg_Len_nil w1).mono ?_
  rintro e w' ⟨rfl, rfl⟩
  go_wp2_with fail
  refine (rg_Cap_nil w1).mono ?_
  rintro e w' ⟨rfl, rfl⟩
  go_wp2_with fail
  refine (rg_Drops_nil w1).mono ?_
  rintro e w' ⟨rfl, rfl⟩
  go_wp2_with fail
  refine (rg_Sequence_nil x w1).mono ?_
  rintro e w' ⟨rfl, rfl⟩
  go_wp2_with fail
  refine (law_list11_nil w1).mono ?_
  rintro e w2 ⟨r, rfl, hr, hb2⟩
  obtain ⟨a, c, rfl, _⟩ := hr.form
  have hs := B1.out.size
  have B2 := Lib.hid (B1.out.trans (hb2.mono (by omega)))
  clear hr hb2
  go_wp2
  go_ret
  exact ⟨rfl, B2.out⟩

end Go.Proofs.Ytmonfkiakjaimaa
