/- The document's example, as the laws of layer 3 ask for it; SetOrder's walk. -/
import Derived.Test.YtlfehhegkpoojaaList3
import Derived.Test.YtlfehhegkpoojaaRef3
import Derived.Deep.RegionHeld3
import Derived.Deep.CutBlock
namespace Go.Proofs.Ytlfehhegkpoojaa
open Go.RowKit Go.Shelf

theorem ints_same (u v : Value) (A B : List Int) (w : World) (hu : NumsIn w u A) (hv : NumsIn w v B) (hA : A.length ≤ 1000000) (e : A = B) :
    Calls Try.prog 12 #[u, v] w fun e w' => e = .returned (.bool true) ∧ Below w.heap.size w w' :=
  (ref_Ints u v A B w hu hv hA (e ▸ hA)).mono fun e w' h => by rw [decide_eq_true (by assumption)] at h; exact h

/-- A list that was just written down. -/
theorem nums_lit (W : World) (L : List Int) : NumsIn (W.alloc (.cells (L.map numV).toArray 3)) (.slice (some ⟨W.heap.size, 0, none⟩) L.length L.length) L :=
  ⟨by simp, .inr ⟨W.heap.size, 0, _, rfl, Nat.le_refl _, by simp, cellsAt_block _ _ _⟩⟩
theorem of_313 : ofZ [3, 1, 3] = [1, 3] := by
  refine up_ext (ofZ_facts _).1 (by decide) fun z => ?_
  rw [(ofZ_facts _).2]; simp; omega

set_option maxRecDepth 100000 in
theorem awake3 (w : World) :
    Calls Try.prog 7 #[] w fun e w' => e = .returned (.bool true) ∧ Below w.heap.size w w' := by
  go_enter Try.func7, Try.ntmps7
  go_wp2_with fail
  have h1 := nums_lit w [3, 1, 3]
  have B1 : Below w.heap.size w (w.alloc (.cells (([3, 1, 3] : List Int).map numV).toArray 3)) := (Below.refl _ _).alloc (Nat.le_refl _) _
  refine (set_Of _ [3, 1, 3] _ h1.arg (by simp)).mono ?_
  rintro e w1 ⟨r, rfl, hr, hB1⟩
  rw [of_313] at hr
  have B2 := Lib.hid (below_step B1 hB1)
  have HR := Lib.hid hr
  clear h1 B1 hB1 hr
  go_wp2_with fail
  refine (law_list r [1, 3] _ HR.out (by simp)).mono ?_
  rintro e w2 ⟨l, rfl, hl, hB2⟩
  have B3 := Lib.hid (below_step B2.out hB2)
  have HL := Lib.hid hl
  clear hl hB2
  go_wp2_with fail
  have h2 := nums_lit w2 [1, 3]
  have B4 : Below w2.heap.size w2 (w2.alloc (.cells (([1, 3] : List Int).map numV).toArray 3)) := (Below.refl _ _).alloc (Nat.le_refl _) _
  refine (ints_same l _ [1, 3] [1, 3] _ (HL.out.below B4) h2 (by simp) rfl).mono ?_
  rintro e w3 ⟨rfl, hB3⟩
  have B5 := Lib.hid (below_step (below_step B3.out B4) hB3)
  clear h2 B4 hB3
  go_wp2
  go_ret
  exact ⟨rfl, B5.out⟩

end Go.Proofs.Ytlfehhegkpoojaa
