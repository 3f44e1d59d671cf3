/- Layer 13's laws: the document's example. -/
import Derived.Test.YtmfejpbijllojaaTrieX13
import Derived.Test.YtmfejpbijllojaaList13
import Derived.Test.YtmfejpbijllojaaIntsRef
namespace Go.Proofs.Ytmfejpbijllojaa
open Go.RowKit Go.Shelf

theorem ofZ_up {L : List Int} (h : Up L) : ofZ L = L := up_ext (ofZ_facts L).1 h fun z => (ofZ_facts L).2 z
def F1 : Key := [97, 47, 43]
def F2 : Key := [97, 47, 35]
theorem nums_two (cur : World) (a b : Int) : NumsIn (cur.alloc (.cells #[.int .i64 a, .int .i64 b] 3)) (.slice (some ⟨cur.heap.size, 0, none⟩) 2 2) [a, b] := by
  refine ⟨rfl, .inr ⟨cur.heap.size, 0, 2, rfl, Nat.le_refl _, by simp, ?_⟩⟩
  have := cellsAt_block cur [.int .i64 a, .int .i64 b] 3
  simpa using this
theorem nums_one (cur : World) (a : Int) : NumsIn (cur.alloc (.cells #[.int .i64 a] 3)) (.slice (some ⟨cur.heap.size, 0, none⟩) 1 1) [a] := by
  refine ⟨rfl, .inr ⟨cur.heap.size, 0, 1, rfl, Nat.le_refl _, by simp, ?_⟩⟩
  have := cellsAt_block cur [.int .i64 a] 3
  simpa using this
abbrev NoS : Nat → Prop := fun _ => False
theorem first_add (W : World) : Calls Try.prog 9 #[.agg #[.pointer none, .int .i64 0], .string ⟨#[97, 47, 43]⟩, .int .i64 1] W fun e w' => ∃ o, e = .returned (.tuple #[.agg #[.pointer (pA o), .int .i64 1], .int .i64 0]) ∧ NodeIs NoS w' o ∧ TrOk o [(F1, 1)] ∧ Below W.heap.size W w' := by
  have h := tr_Add (S := NoS) (o := none) (P := []) ⟨#[97, 47, 43]⟩ 1 W (fun _ _ h => h) trivial trOk_nil (by simp)
  have e1 : addZ [] (⟨#[97, 47, 43]⟩ : ByteArray).data.toList 1 = [(F1, 1)] := by decide
  have e2 : addE [] (⟨#[97, 47, 43]⟩ : ByteArray).data.toList 1 = 0 := by decide
  rw [e1, e2] at h
  exact h.mono fun e w' ⟨o, h1, h2, h3, _, h5⟩ => ⟨o, h1, h2, h3, h5⟩
theorem second_add {o : Nd} (W : World) (ho : NodeIs NoS W o) (h : TrOk o [(F1, 1)]) : Calls Try.prog 9 #[.agg #[.pointer (pA o), .int .i64 1], .string ⟨#[97, 47, 35]⟩, .int .i64 2] W fun e w' => ∃ o, e = .returned (.tuple #[.agg #[.pointer (pA o), .int .i64 2], .int .i64 0]) ∧ NodeIs NoS w' o ∧ TrOk o [(F1, 1), (F2, 2)] ∧ Below W.heap.size W w' := by
  have h := tr_Add (S := NoS) ⟨#[97, 47, 35]⟩ 2 W (fun _ _ h => h) ho h (by simp)
  have e1 : addZ [(F1, 1)] (⟨#[97, 47, 35]⟩ : ByteArray).data.toList 2 = [(F1, 1), (F2, 2)] := by decide
  have e2 : addE [(F1, 1)] (⟨#[97, 47, 35]⟩ : ByteArray).data.toList 2 = 0 := by decide
  rw [e1, e2] at h
  exact h.mono fun e w' ⟨o, h1, h2, h3, _, h5⟩ => ⟨o, h1, h2, h3, h5⟩
theorem match_ab {o : Nd} (W : World) (ho : NodeIs NoS W o) (h : TrOk o [(F1, 1), (F2, 2)]) : Calls Try.prog 18 #[.agg #[.pointer (pA o), .int .i64 2], .string ⟨#[97, 47, 98]⟩] W fun e w' => ∃ r, e = .returned r ∧ SetIn w' r [1, 2] ∧ Below W.heap.size W w' := by
  have h := tr_Match (S := NoS) ⟨#[97, 47, 98]⟩ W ho h (by simp)
  have e1 : mzP [(F1, 1), (F2, 2)] (⟨#[97, 47, 98]⟩ : ByteArray).data.toList = [1, 2] := by decide
  rw [e1, ofZ_up (by simp)] at h
  exact h
theorem match_a {o : Nd} (W : World) (ho : NodeIs NoS W o) (h : TrOk o [(F1, 1), (F2, 2)]) : Calls Try.prog 18 #[.agg #[.pointer (pA o), .int .i64 2], .string ⟨#[97]⟩] W fun e w' => ∃ r, e = .returned r ∧ SetIn w' r [2] ∧ Below W.heap.size W w' := by
  have h := tr_Match (S := NoS) ⟨#[97]⟩ W ho h (by simp)
  have e1 : mzP [(F1, 1), (F2, 2)] (⟨#[97]⟩ : ByteArray).data.toList = [2] := by decide
  rw [e1, ofZ_up (by simp)] at h
  exact h
set_option maxRecDepth 100000 in
set_option maxHeartbeats 2000000 in
theorem awake13 (w : World) : Calls Try.prog 6 #[] w fun e w' => e = .returned (.bool true) ∧ Below w.heap.size w w' := by
  go_enter Try.func6, Try.ntmps6
  go_wp2_with fail
  refine (first_add _).mono ?_
  rintro e w1 ⟨o1, rfl, hn1, ht1, hB1⟩
  have A2 : Hid (∀ W, Below w1.heap.size w1 W → _) := Lib.hid fun W hW => second_add W (hn1.below hW) ht1
  have B1 := Lib.hid hB1
  clear hn1 ht1 hB1
  generalize pA o1 = q1 at *
  go_wp2_with fail
  have hN := new_below w1 (.cells #[.pointer q1, .int .i64 1] 27)
  refine (A2.out _ hN).mono ?_
  rintro e w2 ⟨o2, rfl, hn2, ht2, hB2⟩
  have M1 : Hid (∀ W, Below w2.heap.size w2 W → _) := Lib.hid fun W hW => match_ab W (hn2.below hW) ht2
  have M2 : Hid (∀ W, Below w2.heap.size w2 W → _) := Lib.hid fun W hW => match_a W (hn2.below hW) ht2
  have B2 := Lib.hid (below_step B1.out (below_step hN hB2))
  clear hn2 ht2 hB2 hN A2
  generalize pA o2 = q2 at *
  go_wp2_with fail
  obtain ⟨W3, hW3⟩ : ∃ W, W = w2.alloc (.cells #[.pointer q2, .int .i64 2] 27) := ⟨_, rfl⟩
  have b3 : Blk 27 W3 w2.heap.size [.pointer q2, .int .i64 2] := by rw [hW3]; exact Blk.new
  have HB3 : Hid (Below w2.heap.size w2 W3) := Lib.hid (by rw [hW3]; exact new_below _ _)
  rw [← hW3]
  clear hW3
  refine (M1.out _ HB3.out).mono ?_
  rintro e w4 ⟨r, rfl, hs4, hB4⟩
  have b4 := b3.below hB4 b3.lt
  have HB4 := Lib.hid (below_step HB3.out hB4)
  have HS4 := Lib.hid hs4
  clear hs4 hB4 b3 HB3 M1
  go_wp2_with fail
  refine (list13 r _ w4 HS4.out (by simp)).mono ?_
  rintro e w5 ⟨r5, rfl, hn5, hB5⟩
  have b5 := b4.below hB5 b4.lt
  have HB5 := Lib.hid (below_step HB4.out hB5)
  have HN5 := Lib.hid hn5
  clear hn5 hB5 b4 HB4 HS4
  go_wp2_with fail
  obtain ⟨W6, hW6⟩ : ∃ W, W = w5.alloc (.cells #[.int .i64 1, .int .i64 2] 3) := ⟨_, rfl⟩
  have hB6 : Below w5.heap.size w5 W6 := by rw [hW6]; exact new_below _ _
  have hn6 : NumsIn W6 (.slice (some ⟨w5.heap.size, 0, none⟩) 2 2) [1, 2] := by rw [hW6]; exact nums_two _ 1 2
  have b6 := b5.below hB6 b5.lt
  have HB6 := Lib.hid (below_step HB5.out hB6)
  rw [← hW6]
  clear hW6
  refine (ref_Ints _ _ _ _ W6 (HN5.out.below hB6) hn6 (by simp) (by simp)).mono ?_
  rintro e w7 ⟨rfl, hB7⟩
  have b7 := b6.below hB7 b6.lt
  have HB7 := Lib.hid (below_step HB6.out hB7)
  have k0 := b7.at (o := 0) rfl
  have k1 := b7.at (o := 1) rfl
  rw [show decide (([1, 2] : List Int) = [1, 2]) = true by decide]
  clear hB6 hn6 b5 b6 hB7 HB5 HB6 HN5
  go_wp2_with fail
  refine (M2.out _ HB7.out).mono ?_
  rintro e w8 ⟨r8, rfl, hs8, hB8⟩
  have HB8 := Lib.hid (below_step HB7.out hB8)
  have HS8 := Lib.hid hs8
  clear hs8 hB8 b7 k0 k1 M2 HB7
  go_wp2_with fail
  refine (list13 r8 _ w8 HS8.out (by simp)).mono ?_
  rintro e w9 ⟨r9, rfl, hn9, hB9⟩
  have HB9 := Lib.hid (below_step HB8.out hB9)
  have HN9 := Lib.hid hn9
  clear hn9 hB9 HB8 HS8
  go_wp2_with fail
  obtain ⟨W10, hW10⟩ : ∃ W, W = w9.alloc (.cells #[.int .i64 2] 3) := ⟨_, rfl⟩
  have hB10 : Below w9.heap.size w9 W10 := by rw [hW10]; exact new_below _ _
  have hn10 : NumsIn W10 (.slice (some ⟨w9.heap.size, 0, none⟩) 1 1) [2] := by rw [hW10]; exact nums_one _ 2
  rw [← hW10]
  clear hW10
  refine (ref_Ints _ _ _ _ W10 (HN9.out.below hB10) hn10 (by simp) (by simp)).mono ?_
  rintro e w11 ⟨rfl, hB11⟩
  have HB11 := Lib.hid (below_step (below_step HB9.out hB10) hB11)
  rw [show decide (([2] : List Int) = [2]) = true by decide]
  clear hB10 hn10 hB11 HB9 HN9
  go_wp2
  go_ret
  exact ⟨rfl, below_step B2.out HB11.out⟩
end Go.Proofs.Ytmfejpbijllojaa
