/- Slices of numbers, by the list of them. -/
import Derived.Test.YtmfejpbijllojaaGreatProg
import Derived.Test.YtmfejpbijllojaaGreatCopy3
import Derived.Lib.Hide
import Derived.WalkKit
namespace Go.Proofs.YtmfejpbijllojaaGreat
open Go.RowKit

theorem infoInt : (Tryz.prog.info? 3).map (fun i => (i.zero, i.size, i.bytes)) = some (some (.int .i64 0), 1, 8) := by kernel_rfl
abbrev numV (x : Int) : Value := .int .i64 x
/-- A slice of numbers. -/
abbrev NumsIn (W : World) (v : Value) (L : List Int) : Prop := SliceK W 1 v L.length (L.map numV)
theorem cells_num {W : World} {b off : Nat} {L : List Int} (h : CellsAt W b off (L.map numV)) (i : Nat) (hi : i < L.length) : W.cell? ⟨b, off + i, none⟩ = some (.int .i64 (L.getD i 0)) := by
  refine h i _ ?_
  rw [List.getElem?_map, List.getElem?_eq_getElem hi]
  simp [List.getD, List.getElem?_eq_getElem hi]
theorem NumsIn.form {W : World} {v : Value} {L : List Int} (h : NumsIn W v L) : ∃ a c, v = .slice a L.length c ∧ ∀ k, k < L.length → ∃ b off, a = some ⟨b, off, none⟩ ∧ b < W.heap.size ∧ W.cell? ⟨b, off + k, none⟩ = some (.int .i64 (L.getD k 0)) := by
  rcases h.2 with ⟨rfl, h0⟩ | ⟨b, off, cap, rfl, _, hb, hc⟩
  · exact ⟨none, 0, by rw [h0], fun k hk => by omega⟩
  · exact ⟨_, cap, rfl, fun k hk => ⟨b, off, rfl, hb, cells_num hc k hk⟩⟩
theorem own_base3 {w : World} {base : Nat} {e : TypeId} {size : Nat} {v : Value} {n : Nat} {xs : List Value} (h : w.ownsRow base e size v n xs) (k : Nat) (hk : v.ownBlock = some k) : base ≤ k := by
  rcases h.2 with ⟨rfl, _⟩ | ⟨g, cap, cur, rfl, hb, _⟩
  · simp [Value.ownBlock] at hk
  · simp [Value.ownBlock] at hk; omega
theorem getD_at {L : List Int} {k : Nat} (hk : k < L.length) : L.getD k 0 = L[k] := by simp [List.getD, List.getElem?_eq_getElem hk]

theorem own_snoc {W : World} {B : Nat} {v : Value} {n : Nat} {M : List Int} {y : Int} (h : W.ownsRow B 3 1 v n (M.map numV ++ [numV y])) (hn : n = (M ++ [y]).length) : W.ownsRow B 3 1 v (M ++ [y]).length ((M ++ [y]).map numV) := by
  rw [← hn, List.map_append]; exact h

end Go.Proofs.YtmfejpbijllojaaGreat
