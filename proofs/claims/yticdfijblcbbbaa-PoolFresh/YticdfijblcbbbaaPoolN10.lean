/- Layer 10 (package pool, of ints): Stamp; nil pools; the example. -/
import Derived.Test.YticdfijblcbbbaaPoolL10
namespace Go.Proofs.Yticdfijblcbbbaa
open Go.RowKit

section
variable {w w' : World} {lo B : Nat} {pv fv : Value} {x : Po Int}
theorem po_Stamp (h : PiIs w lo B pv fv x) (id : Int) : Calls Try.prog 16 #[.pointer (some ⟨B, 0, none⟩), .int .i64 id] w fun e w' => e = .returned (.int .i64 (stampZ x id)) ∧ w = w' := by
  cases hh : hasP x.M.length id with
  | false =>
    have A := Lib.hid (po_at_no h hh)
    rw [stampZ_no hh]
    clear h hh
    go_enter Try.func16, Try.ntmps16
    go_wp2_with fail
    refine A.out.mono ?_
    rintro e w' ⟨rfl, rfl⟩
    go_wp2
    go_ret
    simp
  | true =>
    obtain ⟨i, rfl, hi⟩ := hasP_yes hh
    have hp := List.getElem?_eq_getElem hi
    rw [stampZ_at hp]
    obtain ⟨g, cap, eg, hlt, k0, k1, k2, kf, kt⟩ := h.at hp
    have A := Lib.hid (po_at h hi eg)
    generalize x.M[i] = p at *
    clear h hh kf kt eg hp
    go_enter Try.func16, Try.ntmps16
    go_wp2_with fail
    refine A.out.mono ?_
    rintro e w' ⟨rfl, rfl⟩
    go_wp2
    go_ret
    simp
end
theorem po_Len_nil (w : World) : Calls Try.prog 17 #[.pointer none] w fun e w' => e = .returned (.int .i64 0) ∧ w = w' := by
  go_enter Try.func17, Try.ntmps17
  go_wp2
  go_ret
  simp
theorem po_Live_nil (w : World) : Calls Try.prog 18 #[.pointer none] w fun e w' => e = .returned (.int .i64 0) ∧ w = w' := by
  go_enter Try.func18, Try.ntmps18
  go_wp2
  go_ret
  simp
theorem po_at_nil (id : Int) (w : World) : Calls Try.prog 25 #[.pointer none, .int .i64 id] w fun e w' => e = .returned (.pointer none) ∧ w = w' := by
  by_cases h0 : id ≤ 0
  · go_enter Try.func25, Try.ntmps25
    go_wp2
    go_ret
    simp
  · have h1 : decide (0 < id) = true := by simp; omega
    go_enter Try.func25, Try.ntmps25
    go_wp2_with (go_at_call 17; refine (po_Len_nil w).mono ?_; rintro e w' ⟨rfl, rfl⟩)
    go_ret
    simp
theorem po_vacant_nil (w : World) : Calls Try.prog 24 #[.pointer none] w fun e w' => e = .returned (.int .i64 0) ∧ w = w' := by
  go_enter Try.func24, Try.ntmps24
  go_wp2
  go_ret
  simp
theorem po_Take_nil (v : Int) (w : World) : Calls Try.prog 9 #[.pointer none, .int .i64 v] w fun e w' => e = .returned (.tuple #[.int .i64 0, .int .i64 0, .int .i64 8]) ∧ w = w' := by
  go_enter Try.func9, Try.ntmps9
  go_wp2_with fail
  refine (po_vacant_nil w).mono ?_
  rintro e w' ⟨rfl, rfl⟩
  go_wp2
  refine bodyPost_ret (v := .tuple #[.int .i64 0, .int .i64 0, .int .i64 8]) (by simp [results, Try.results9, go_sem]) rfl ⟨rfl, rfl⟩
theorem po_Give_nil (id : Int) (w : World) : Calls Try.prog 11 #[.pointer none, .int .i64 id] w fun e w' => e = .returned (.int .i64 4) ∧ w = w' := by
  go_enter Try.func11, Try.ntmps11
  go_wp2_with fail
  refine (po_at_nil id w).mono ?_
  rintro e w' ⟨rfl, rfl⟩
  go_wp2
  go_ret
  simp
theorem po_Get_nil (id st : Int) (w : World) : Calls Try.prog 13 #[.pointer none, .int .i64 id, .int .i64 st] w fun e w' => e = .returned (.tuple #[.int .i64 0, .int .i64 4]) ∧ w = w' := by
  go_enter Try.func13, Try.ntmps13
  go_wp2_with fail
  refine (po_at_nil id w).mono ?_
  rintro e w' ⟨rfl, rfl⟩
  go_wp2
  go_ret2
  exact ⟨rfl, rfl⟩
theorem po_Stamp_nil (id : Int) (w : World) : Calls Try.prog 16 #[.pointer none, .int .i64 id] w fun e w' => e = .returned (.int .i64 (-1)) ∧ w = w' := by
  go_enter Try.func16, Try.ntmps16
  go_wp2_with fail
  refine (po_at_nil id w).mono ?_
  rintro e w' ⟨rfl, rfl⟩
  go_wp2
  go_ret
  simp
set_option maxHeartbeats 1000000 in
theorem awake10 (w : World) : Calls Try.prog 6 #[] w fun e w' => e = .returned (.bool true) ∧ Below w.heap.size w w' := by
  go_enter Try.func6, Try.ntmps6
  go_wp2_with fail
  refine (po_New 3 w).mono ?_
  rintro e w1 ⟨rfl, h1, b1⟩
  rw [show limZ 3 = 3 from rfl] at h1
  have H1 := Lib.hid h1
  have B1 := Lib.hid b1
  have hs1 := h1.blk.lt
  clear h1 b1
  go_wp2_with fail
  refine (po_Take H1.out (by omega) (by simp) (v := 5) (takeZ_new rfl (by simp))).mono ?_
  rintro e w2 ⟨rfl, ⟨pv2, fv2, h2, n2⟩, o2⟩
  have H2 : Hid (PiIs w2 w.heap.size w.heap.size pv2 fv2 ⟨3, [⟨5, 0, true⟩], []⟩) := Lib.hid h2
  have B2 := Lib.hid (Only.below_step (by omega) B1.out o2 (fun i hi e => by
    rcases e with e | e | e
    · omega
    · simp [Value.ownBlock] at e
    · simp [Value.ownBlock] at e))
  have N2 := Lib.hid n2
  have hs2 := o2.size
  clear h2 o2 n2
  go_wp2_with fail
  refine (po_Give H2.out (by omega) (id := 1) (giveZ_at (i := 0) (p := ⟨5, 0, true⟩) rfl) (by simp) (by simp)).mono ?_
  rintro e w3 ⟨rfl, ⟨fv3, h3, n3⟩, o3⟩
  have H3 : Hid (PiIs w3 w.heap.size w.heap.size pv2 fv3 ⟨3, [⟨5, 1, false⟩], [1]⟩) := Lib.hid h3
  have hlow : ∀ k, PiBlk w.heap.size pv2 fv2 k → w.heap.size ≤ k := fun k hk => by
    rcases N2.out k hk with h | h
    · rcases h with e | e | e
      · omega
      · simp [Value.ownBlock] at e
      · simp [Value.ownBlock] at e
    · omega
  have HL := Lib.hid hlow
  have B3 := Lib.hid (Only.below_step (by omega) B2.out o3 (fun i hi e => by have := hlow i e; omega))
  have N3 := Lib.hid n3
  have hs3 := o3.size
  clear h3 o3 n3 hlow
  go_wp2_with fail
  refine (po_Take H3.out (by omega) (by simp) (v := 6) (takeZ_free (F := []) (i := 0) (p := ⟨5, 1, false⟩) rfl rfl)).mono ?_
  rintro e w4 ⟨rfl, ⟨pv4, fv4, h4, n4⟩, o4⟩
  have B4 := Lib.hid (Only.below_step (by omega) B3.out o4 (fun i hi e => by
    rcases N3.out i e with h | h
    · have := HL.out i h; omega
    · omega))
  clear h4 n4 o4
  go_wp2
  go_ret
  exact ⟨rfl, B4.out⟩
theorem none10 (id st : Int) (w : World) : Calls Try.prog 5 #[.int .i64 id, .int .i64 st] w fun e w' => e = .returned (.bool true) ∧ Below w.heap.size w w' := by
  go_enter Try.func5, Try.ntmps5
  go_wp2_with fail
  refine (awake10 w).mono ?_
  rintro e w1 ⟨rfl, hb⟩
  have B1 := Lib.hid hb
  clear hb
  go_wp2_with fail
  refine (po_Take_nil 5 w1).mono ?_
  rintro e w' ⟨rfl, rfl⟩
  go_wp2_with fail
  refine (po_Get_nil id st w1).mono ?_
  rintro e w' ⟨rfl, rfl⟩
  go_wp2_with fail
  refine (po_Give_nil id w1).mono ?_
  rintro e w' ⟨rfl, rfl⟩
  go_wp2_with fail
  refine (po_Stamp_nil id w1).mono ?_
  rintro e w' ⟨rfl, rfl⟩
  go_wp2_with fail
  refine (po_Live_nil w1).mono ?_
  rintro e w' ⟨rfl, rfl⟩
  go_wp2_with fail
  refine (po_Len_nil w1).mono ?_
  rintro e w' ⟨rfl, rfl⟩
  go_wp2
  go_ret
  exact ⟨rfl, B1.out⟩

end Go.Proofs.Yticdfijblcbbbaa
