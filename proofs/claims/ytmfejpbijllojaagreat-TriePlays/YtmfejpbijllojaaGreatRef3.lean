/- What the document's own answers of layer 3 on numbers (bellmanref03.With, Without; bellmanref01.Ints) come to. -/
import Derived.Test.YtmfejpbijllojaaGreatProg
import Derived.Test.YtmfejpbijllojaaGreatSearch3
import Derived.Test.YtmfejpbijllojaaGreatRepl3
import Derived.Test.YtmfejpbijllojaaGreatBase
import Derived.Test.YtmfejpbijllojaaGreatIntsRef
import Derived.WalkKit
import Derived.IntWalk
import Derived.Lib.Hide
import Derived.Maps.AppendAt
import Derived.RangeFuncBox
import Derived.Deep.Draws
import Derived.Deep.AppendLies
import Derived.BigQuiet
namespace Go.Proofs.YtmfejpbijllojaaGreat
open Go.RowKit

/-- A slice that lies in a block made since. -/
def FreshV (n : Nat) (r : Value) : Prop := ∀ g off m c, r = .slice (some ⟨g, off, none⟩) m c → n ≤ g
theorem own_fresh {W : World} {B k n : Nat} {e : TypeId} {v : Value} {xs : List Value} (h : W.ownsRow B e k v n xs) : FreshV B v := fun g off m c he => by
  rcases h.2 with ⟨rfl, _⟩ | ⟨g', cap, cur, rfl, hB, _⟩
  · cases he
  · cases he; exact hB
theorem FreshV.mono {n m : Nat} {r : Value} (h : FreshV n r) (hm : m ≤ n) : FreshV m r := fun g off k c he => Nat.le_trans hm (h g off k c he)
/-- A slice of numbers in a block made since. -/
def NumsFr (n : Nat) (W : World) (r : Value) (L : List Int) : Prop := NumsIn W r L ∧ FreshV n r

/-- What is left of With, before and behind x. -/
def restZ (x : Int) (dn : Bool) (R : List Int) : List Int := if dn then woZ x R else withZ x R

set_option maxHeartbeats 4000000 in
set_option maxRecDepth 100000 in
/-- bellmanref03.With. -/
theorem ref_With0 (s : Value) (L : List Int) (x : Int) (w : World) (hs : NumsIn w s L) (hbig : L.length ≤ 1000000) :
    Calls Tryz.prog 39 #[s, .int .i64 x] w fun e w' => ∃ r, e = .returned r ∧ NumsFr w.heap.size w' r (withZ x L) ∧ Below w.heap.size w w' := by
  obtain ⟨i0, hi, hz0, hz1, hz2⟩ := info_parts infoInt
  obtain ⟨a, c, rfl, h1⟩ := hs.form
  have HC := Lib.hid h1
  clear h1 hs
  go_enter Tryz.func39, Tryz.ntmps39
  go_wp2
  go_loopw [5, 6, 7] (fun o d i wr => ∃ (k : Nat) (dn : Bool) (M : List Int), k ≤ L.length ∧ M.length ≤ k + 1 ∧ (dn = false → M.length ≤ k) ∧ d = .bool dn ∧ i = .int .i64 k ∧ Hid (withZ x L = M ++ restZ x dn (L.drop k)) ∧ wr.ownsRow w.heap.size 3 1 o M.length (M.map numV) ∧ Below w.heap.size w wr) (fun _ _ i _ => L.length - (intOf i).toNat)
  case atStart => exact ⟨0, false, [], Nat.zero_le _, Nat.zero_le _, fun _ => Nat.le_refl _, rfl, rfl, rfl, World.ownsRow_nil _ _ _ _, Below.refl _ _⟩
  case round =>
    obtain ⟨k, dn, M, hk, hM, hMd, rfl, rfl, H, hrow, hB⟩ := hrel
    have hbs := hB.size
    by_cases hlt : k < L.length
    · obtain ⟨b, off, rfl, hb, hx0⟩ := HC.out k hlt
      have hx := (hB.cell (p := ⟨b, off + k, none⟩) hb).trans hx0
      have hd : L.drop k = L.getD k 0 :: L.drop (k + 1) := by rw [getD_at hlt]; exact List.drop_eq_getElem_cons hlt
      have HX := Lib.hid hx0
      clear hx0
      generalize L.getD k 0 = y at hx hd HX
      have D := Lib.hid hd
      clear hd
      cases dn with
      | true =>
        by_cases hy : y = x
        · subst hy
          go_wp2
          go_roundw
          case rel =>
            refine ⟨k + 1, true, M, by omega, by omega, (fun e => by cases e), rfl, by go_num, ?_, hrow, hB⟩
            show _ = _
            rw [H.out, D.out]; simp [restZ, woZ]
          case measure => simp [intOf]; omega
        · have hy1 : (y == x) = false := by simpa using hy
          go_wp2_with (at_builtin; refine wpList_append_own _ rfl _ _ 30 rfl w.heap.size 3 i0 (.int .i64 0) 1 8 Tryz.underlying30 hi hz0 hz1 hz2 rfl (by decide) _ _ _ rfl (hrow.alloc _) ⟨wr.heap.size, 0, none⟩ 1 1 [.int .i64 y] rfl rfl (cell_one_new _ _ _) (by simp [Value.oneCell']) (by simp only [maxLen]; omega) (by omega) (by simp; omega) ?_; intro v' w1 hown' hgrow _; obtain ⟨g', cap', rfl⟩ := ownsRow_succ hown')
          go_roundw
          case rel =>
            refine ⟨k + 1, true, M ++ [y], by omega, by simp; omega, (fun e => by cases e), rfl, by go_num, ?_, own_snoc hown' (by simp), (hB.alloc hbs _).grown hgrow (by simp; omega) (fun j e => own_base3 hrow j e)⟩
            show _ = _
            rw [H.out, D.out]; simp [restZ, woZ, hy]
          case measure => simp [intOf]; omega
      | false =>
        have hM := hMd rfl
        by_cases hxy : x ≤ y
        · by_cases hy : y = x
          · subst hy
            go_wp2_with (at_builtin; refine wpList_append_own _ rfl _ _ 30 rfl w.heap.size 3 i0 (.int .i64 0) 1 8 Tryz.underlying30 hi hz0 hz1 hz2 rfl (by decide) _ _ _ rfl (hrow.alloc _) ⟨wr.heap.size, 0, none⟩ 1 1 [.int .i64 y] rfl rfl (cell_one_new _ _ _) (by simp [Value.oneCell']) (by simp only [maxLen]; omega) (by omega) (by simp; omega) ?_; intro v' w1 hown' hgrow _; obtain ⟨g', cap', rfl⟩ := ownsRow_succ hown'; have hB1 := (hB.alloc hbs _).grown hgrow (by simp; omega) (fun j e => own_base3 hrow j e); have hx1 := (hB1.cell (p := ⟨b, off + k, none⟩) hb).trans HX.out)
            go_roundw
            case rel =>
              refine ⟨k + 1, true, M ++ [y], by omega, by simp; omega, (fun e => by cases e), rfl, by go_num, ?_, own_snoc hown' (by simp), hB1⟩
              show _ = _
              rw [H.out, D.out]; simp [restZ, woZ, withZ]
            case measure => simp [intOf]; omega
          · have hy1 : (y == x) = false := by simpa using hy
            go_wp2_with (at_builtin; first
              | (refine wpList_append_own _ rfl _ _ 30 rfl w.heap.size 3 i0 (.int .i64 0) 1 8 Tryz.underlying30 hi hz0 hz1 hz2 rfl (by decide) _ _ _ rfl (hrow.alloc _) ⟨wr.heap.size, 0, none⟩ 1 1 [.int .i64 x] rfl rfl (cell_one_new _ _ _) (by simp [Value.oneCell']) (by simp only [maxLen]; omega) (by omega) (by simp; omega) ?_; intro v' w1 hown' hgrow _; obtain ⟨g', cap', rfl⟩ := ownsRow_succ hown'; have hB1 := (hB.alloc hbs _).grown hgrow (by simp; omega) (fun j e => own_base3 hrow j e); have hx1 := (hB1.cell (p := ⟨b, off + k, none⟩) hb).trans HX.out; have hbs1 := hB1.size)
              | (refine wpList_append_own _ rfl _ _ 30 rfl w.heap.size 3 i0 (.int .i64 0) 1 8 Tryz.underlying30 hi hz0 hz1 hz2 rfl (by decide) _ _ _ rfl (hown'.alloc _) ⟨w1.heap.size, 0, none⟩ 1 1 [.int .i64 y] rfl rfl (cell_one_new _ _ _) (by simp [Value.oneCell']) (by simp only [maxLen]; omega) (by omega) (by simp; omega) ?_; intro v2 w2 hown2 hgrow2 _; obtain ⟨g2, cap2, rfl⟩ := ownsRow_succ hown2; have hB2 := (hB1.alloc hbs1 _).grown hgrow2 (by simp; omega) (fun j e => own_base3 hown' j e)))
            go_roundw
            case rel =>
              refine ⟨k + 1, true, M ++ [x] ++ [y], by omega, by simp; omega, (fun e => by cases e), rfl, by go_num, ?_, own_snoc (by rw [List.map_append]; exact hown2) (by simp), hB2⟩
              show _ = _
              rw [H.out, D.out]; simp [restZ, woZ, withZ, hxy, hy]
            case measure => simp [intOf]; omega
        · have hy1 : (y == x) = false := by simp; omega
          go_wp2_with (at_builtin; refine wpList_append_own _ rfl _ _ 30 rfl w.heap.size 3 i0 (.int .i64 0) 1 8 Tryz.underlying30 hi hz0 hz1 hz2 rfl (by decide) _ _ _ rfl (hrow.alloc _) ⟨wr.heap.size, 0, none⟩ 1 1 [.int .i64 y] rfl rfl (cell_one_new _ _ _) (by simp [Value.oneCell']) (by simp only [maxLen]; omega) (by omega) (by simp; omega) ?_; intro v' w1 hown' hgrow _; obtain ⟨g', cap', rfl⟩ := ownsRow_succ hown')
          go_roundw
          case rel =>
            refine ⟨k + 1, false, M ++ [y], by omega, by simp; omega, (fun _ => by simp; omega), rfl, by go_num, ?_, own_snoc hown' (by simp), (hB.alloc hbs _).grown hgrow (by simp; omega) (fun j e => own_base3 hrow j e)⟩
            show _ = _
            rw [H.out, D.out]; simp [restZ, withZ, hxy]
          case measure => simp [intOf]; omega
    · have hf : withZ x L = M ++ restZ x dn [] := by
        have := H.out
        rwa [List.drop_eq_nil_of_le (by omega)] at this
      have HF := Lib.hid hf
      clear hf
      cases dn with
      | true =>
        have RW := Lib.hid hrow
        rcases hrow.2 with ⟨rfl, h0⟩ | ⟨g, cap, cur, rfl, _⟩
        all_goals
          clear hrow
          go_wp2
          go_ret
          refine ⟨_, rfl, ⟨?_, own_fresh RW.out⟩, hB⟩
          rw [HF.out]
          have e : M ++ restZ x true [] = M := by simp [restZ, woZ]
          rw [e]; exact SliceK.of_own RW.out
      | false =>
        go_wp2_with (at_builtin; refine wpList_append_own _ rfl _ _ 30 rfl w.heap.size 3 i0 (.int .i64 0) 1 8 Tryz.underlying30 hi hz0 hz1 hz2 rfl (by decide) _ _ _ rfl (hrow.alloc _) ⟨wr.heap.size, 0, none⟩ 1 1 [.int .i64 x] rfl rfl (cell_one_new _ _ _) (by simp [Value.oneCell']) (by simp only [maxLen]; omega) (by omega) (by simp; omega) ?_; intro v' w1 hown' hgrow _; obtain ⟨g', cap', rfl⟩ := ownsRow_succ hown')
        go_ret
        refine ⟨_, rfl, ⟨?_, own_fresh hown'⟩, (hB.alloc hbs _).grown hgrow (by simp; omega) (fun j e => own_base3 hrow j e)⟩
        rw [HF.out]
        have e : M ++ restZ x false [] = M ++ [x] := by simp [restZ, withZ]
        rw [e]; exact SliceK.of_own (own_snoc hown' (by simp))

theorem ref_With (s : Value) (L : List Int) (x : Int) (w : World) (hs : NumsIn w s L) (hbig : L.length ≤ 1000000) :
    Calls Tryz.prog 39 #[s, .int .i64 x] w fun e w' => ∃ r, e = .returned r ∧ NumsIn w' r (withZ x L) ∧ Below w.heap.size w w' :=
  (ref_With0 s L x w hs hbig).mono fun _ _ ⟨r, h1, h2, h3⟩ => ⟨r, h1, h2.1, h3⟩

end Go.Proofs.YtmfejpbijllojaaGreat
