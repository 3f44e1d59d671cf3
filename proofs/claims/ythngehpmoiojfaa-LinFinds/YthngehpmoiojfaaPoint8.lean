/- Layer 8: how far a search came, as a map's key. -/
import Derived.Test.YthngehpmoiojfaaMapV8
import Derived.Test.YthngehpmoiojfaaHist7
namespace Go.Proofs.Ythngehpmoiojfaa
open Go.RowKit Go.Maps

def ptL (D : List Bool) (k : ByteArray) : List Value := D.map Value.bool ++ [.string k]
abbrev ptA (D : List Bool) (k : ByteArray) : Value := .agg (ptL D k).toArray
theorem point_law : Keyed Try.prog 74 := Keyed.of_law (deep_law_laid (by kernel_rfl) (m := 3) (by omega) (of_decide_eq_true (by kernel_rfl)) (by kernel_rfl) (by kernel_rfl))
theorem lits_str (d : Nat) {k : ByteArray} (hk : k.size ≤ maxLen) : Try.prog.keyLits (d + 1) 9 [.string k] = some [.string k.data.toList] := by
  unfold Program.keyLits
  simp [Try.underlying9, hk]
theorem key_point {D : List Bool} (hD : D.length = 24) {k : ByteArray} (hk : k.size ≤ maxLen) : ∃ l, keyOf Try.prog 74 (ptA D k) = some l := by
  match D, hD with
  | [b0, b1, b2, b3, b4, b5, b6, b7, b8, b9, b10, b11, b12, b13, b14, b15, b16, b17, b18, b19, b20, b21, b22, b23], _ =>
    have h1 : Try.prog.keyLits Try.prog.types.size 63 ([b0, b1, b2, b3, b4, b5, b6, b7, b8, b9, b10, b11, b12, b13, b14, b15, b16, b17, b18, b19, b20, b21, b22, b23].map Value.bool) = some ([b0, b1, b2, b3, b4, b5, b6, b7, b8, b9, b10, b11, b12, b13, b14, b15, b16, b17, b18, b19, b20, b21, b22, b23].map Lit.bool) := by kernel_rfl
    have h2 : Try.prog.keyLits Try.prog.types.size 9 [.string k] = some [.string k.data.toList] := lits_str _ hk
    refine ⟨.string (keyBytes (([b0, b1, b2, b3, b4, b5, b6, b7, b8, b9, b10, b11, b12, b13, b14, b15, b16, b17, b18, b19, b20, b21, b22, b23].map Lit.bool) ++ [.string k.data.toList])), ?_⟩
    unfold keyOf
    simp only [Try.underlying74]
    rw [if_pos (by kernel_rfl)]
    unfold Program.keyLits
    simp only [Try.underlying74]
    rw [if_pos ⟨by kernel_rfl, by kernel_rfl⟩]
    simp only [List.mapM_cons, List.mapM_nil]
    have e1 : List.take (Try.prog.cellsOf 63) (List.drop 0 (ptA [b0, b1, b2, b3, b4, b5, b6, b7, b8, b9, b10, b11, b12, b13, b14, b15, b16, b17, b18, b19, b20, b21, b22, b23] k).cells.toList) = [b0, b1, b2, b3, b4, b5, b6, b7, b8, b9, b10, b11, b12, b13, b14, b15, b16, b17, b18, b19, b20, b21, b22, b23].map Value.bool := by kernel_rfl
    have e2 : List.take (Try.prog.cellsOf 9) (List.drop 24 (ptA [b0, b1, b2, b3, b4, b5, b6, b7, b8, b9, b10, b11, b12, b13, b14, b15, b16, b17, b18, b19, b20, b21, b22, b23] k).cells.toList) = [.string k] := by kernel_rfl
    rw [e1, e2, h1, h2]
    rfl

end Go.Proofs.Ythngehpmoiojfaa
