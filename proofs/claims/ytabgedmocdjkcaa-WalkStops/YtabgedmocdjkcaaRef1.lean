/- What the document's own answers of layer 1 (package bellmanref01) come to: contracts over the program's text. Texts of at most 1048576 bytes. -/
import Derived.Test.YtabgedmocdjkcaaProg
import Derived.Test.YtabgedmocdjkcaaBytes
import Derived.WalkKit
import Derived.IntWalk
import Derived.Lib.Walk
import Derived.Lib.Strings
import Derived.Lib.Slices
import Derived.Lib.Hide
import Derived.Maps.AppendAt
import Derived.RangeFuncBox
import Derived.Deep.Draws
import Derived.Deep.AppendLies
import Derived.BigCall
import Derived.BigGuard
namespace Go.Proofs.Ytabgedmocdjkcaa
open Go.RowKit

theorem take_snoc (s : ByteArray) (k : Nat) (h : k < s.size) : s.data.toList.take (k + 1) = s.data.toList.take k ++ [s[k]] := by
  rw [List.take_succ_eq_append_getElem (by simpa using h)]; rfl

theorem hasZ_at (s : ByteArray) (k : Nat) (c : Int) (h : k < s.size) (e : ((s[k].toNat : Int) == c) = true) : hasZ s.data.toList c = true := by
  rw [← List.take_append_drop (k + 1) s.data.toList, take_snoc s k h, hasZ_append, hasZ_append, hasZ_cons, e]; simp
theorem hasZ_step (s : ByteArray) (k : Nat) (c : Int) (h : k < s.size) (h0 : hasZ (s.data.toList.take k) c = false) (e : ((s[k].toNat : Int) == c) = false) : hasZ (s.data.toList.take (k + 1)) c = false := by
  rw [take_snoc s k h, hasZ_append, h0, hasZ_cons, e]; rfl
theorem take_all (s : ByteArray) (k : Nat) (h : ¬ k < s.size) : s.data.toList.take k = s.data.toList := List.take_of_length_le (by rw [← Lib.size_eq]; omega)

/-- A text of at most 300 bytes is not long. -/
theorem ref_Long_no (s : ByteArray) (w : World) (h : s.size ≤ 300) :
    Calls Try.prog 7 #[.string s] w fun e w' => e = .returned (.bool false) ∧ w = w' := by
  have h' : decide ((300 : Int) < (s.size : Int)) = false := by simp; omega
  go_enter Try.func7, Try.ntmps7
  go_wp2
  go_ret
  exact ⟨rfl, rfl⟩
theorem ref_Long_yes (s : ByteArray) (w : World) (h : 300 < s.size) :
    Calls Try.prog 7 #[.string s] w fun e w' => e = .returned (.bool true) ∧ w = w' := by
  have h' : decide ((300 : Int) < (s.size : Int)) = true := by simp; omega
  go_enter Try.func7, Try.ntmps7
  go_wp2
  go_ret
  exact ⟨rfl, rfl⟩

set_option maxHeartbeats 400000 in
theorem ref_has (s : ByteArray) (c : Int) (w : World) (hs : s.size ≤ 1048576) :
    Calls Try.prog 31 #[.string s, .int .u8 c] w fun e w' => e = .returned (.bool (hasZ s.data.toList c)) ∧ w = w' := by
  go_enter Try.func31, Try.ntmps31
  go_wp2
  go_loop [5] (fun i => ∃ k : Nat, k ≤ s.size ∧ i = .int .i64 k ∧ Hid (hasZ (s.data.toList.take k) c = false)) (fun i => s.size - (intOf i).toNat)
  case atStart => exact ⟨0, Nat.zero_le _, rfl, rfl⟩
  case round =>
    obtain ⟨k, hk, rfl, H⟩ := hrel
    by_cases hlt : k < s.size
    · go_wp2
      · go_ret
        exact ⟨by rw [hasZ_at s k c hlt (by assumption)]; rfl, rfl⟩
      · go_round
        case rel => exact ⟨k + 1, by omega, by go_num, hasZ_step s k c hlt H.out (by assumption)⟩
        case measure => simp [intOf]; omega
    · go_wp2
      go_ret
      exact ⟨by rw [← take_all s k hlt, H.out]; rfl, rfl⟩

/-- A slice that has just these texts, in memory from B on. -/
def RowOf (w : World) (B : Nat) (v : Value) (L : List (List UInt8)) : Prop :=
  ∃ g cap, v = .slice (some ⟨g, 0, none⟩) L.length cap ∧ B ≤ g ∧ g < w.heap.size ∧ ∀ (i : Nat) x, L[i]? = some x → w.cell? ⟨g, i, none⟩ = some (.string ⟨x.toArray⟩)
theorem RowOf.below {w w' : World} {B : Nat} {v : Value} {L : List (List UInt8)} (h : RowOf w B v L) (hb : Below w.heap.size w w') : RowOf w' B v L := by
  obtain ⟨g, cap, hv, h1, h2, h3⟩ := h
  exact ⟨g, cap, hv, h1, Nat.lt_of_lt_of_le h2 hb.size, fun i x hx => (hb.cell (p := ⟨g, i, none⟩) h2).trans (h3 i x hx)⟩
abbrev strV (x : List UInt8) : Value := .string ⟨x.toArray⟩
theorem addr_at (g i : Nat) : (⟨g, 0, none⟩ : Addr).add i = ⟨g, i, none⟩ := by
  simp [Addr.add]
  intro h; exact h.symm
theorem RowOf.of_own {w : World} {B : Nat} {v : Value} {L : List (List UInt8)} (h : w.ownsRow B 9 1 v L.length (L.map strV)) (hL : L ≠ []) : RowOf w B v L := by
  obtain ⟨g, cap, rfl, h1, h2⟩ := h.form (by cases L with | nil => exact absurd rfl hL | cons _ _ => simp)
  refine ⟨g, cap, rfl, h1, h2, fun i x hx => ?_⟩
  have := h.cells (g := g) rfl i (strV x) (by rw [List.getElem?_map, hx]; rfl)
  rwa [addr_at] at this

theorem infoStr : (Try.prog.info? 9).map (fun i => (i.zero, i.size, i.bytes)) = some (some (.string ⟨#[]⟩), 1, 16) := by kernel_rfl

theorem piece (s : ByteArray) (a k : Nat) : s.extract a k = ⟨((s.data.toList.take k).drop a).toArray⟩ := by
  rw [Lib.extract_eq, List.drop_take]

theorem byte47 {b : UInt8} (h : ((b.toNat : Int) == 47) = true) : b = 47 := UInt8.toNat_inj.1 (by simp at h; show b.toNat = 47; omega)
theorem byte47' {b : UInt8} (h : ((b.toNat : Int) == 47) = false) : b ≠ 47 := by rintro rfl; simp at h
theorem lv_step_sep (s : ByteArray) (k a : Nat) (P : List (List UInt8)) (hlt : k < s.size) (he : ((s[k].toNat : Int) == 47) = true) (H : lv (s.data.toList.take k) = P ++ [(s.data.toList.take k).drop a]) :
    lv (s.data.toList.take (k + 1)) = (P ++ [(s.data.toList.take k).drop a]) ++ [(s.data.toList.take (k + 1)).drop (k + 1)] := by
  have e : (s.data.toList.take k ++ [47]).drop (k + 1) = [] := List.drop_eq_nil_of_le (by simp; omega)
  rw [take_snoc s k hlt, byte47 he, lv_snoc_sep, H, e]
theorem lv_step (s : ByteArray) (k a : Nat) (P : List (List UInt8)) (hlt : k < s.size) (hak : a ≤ k) (he : ((s[k].toNat : Int) == 47) = false) (H : lv (s.data.toList.take k) = P ++ [(s.data.toList.take k).drop a]) :
    lv (s.data.toList.take (k + 1)) = P ++ [(s.data.toList.take (k + 1)).drop a] := by
  rw [take_snoc s k hlt, lv_snoc (byte47' he) _ _ _ H, List.drop_append_of_le_length (by rw [List.length_take, ← Lib.size_eq]; omega)]
theorem own_base {w : World} {base : Nat} {e : TypeId} {size : Nat} {v : Value} {n : Nat} {xs : List Value} (h : w.ownsRow base e size v n xs) (k : Nat) (hk : v.ownBlock = some k) : base ≤ k := by
  rcases h.2 with ⟨rfl, _⟩ | ⟨g, cap, cur, rfl, hb, _⟩
  · simp [Value.ownBlock] at hk
  · simp [Value.ownBlock] at hk; omega
theorem map_snoc (P : List (List UInt8)) (x : List UInt8) : (P ++ [x]).map strV = P.map strV ++ [strV x] := by simp

set_option maxRecDepth 100000 in
set_option maxHeartbeats 1000000 in
theorem ref_Levels (s : ByteArray) (w : World) (hs : s.size ≤ 1048576) :
    Calls Try.prog 22 #[.string s] w fun e w' => ∃ v, e = .returned v ∧ w'.ownsRow w.heap.size 9 1 v (lv s.data.toList).length ((lv s.data.toList).map strV) ∧ Below w.heap.size w w' := by
  obtain ⟨i0, hi, hz0, hz1, hz2⟩ := info_parts infoStr
  go_enter Try.func22, Try.ntmps22
  go_wp2
  go_loopw [3, 4, 5] (fun o f i wr => ∃ (k a : Nat) (P : List (List UInt8)), k ≤ s.size ∧ a ≤ k ∧ P.length ≤ k ∧ f = .int .i64 a ∧ i = .int .i64 k ∧ Hid (lv (s.data.toList.take k) = P ++ [(s.data.toList.take k).drop a]) ∧ wr.ownsRow w.heap.size 9 1 o P.length (P.map strV) ∧ Below w.heap.size w wr) (fun _ _ i _ => s.size - (intOf i).toNat)
  case atStart => exact ⟨0, 0, [], Nat.zero_le _, Nat.le_refl _, Nat.le_refl _, rfl, rfl, rfl, World.ownsRow_nil _ _ _ _, Below.refl _ _⟩
  case round =>
    obtain ⟨k, a, P, hk, hak, hP, rfl, rfl, H, hrow, hB⟩ := hrel
    have HP := Lib.hid (piece s a k)
    have hbs := hB.size
    by_cases hlt : k < s.size
    · have HT := Lib.hid (take_snoc s k hlt)
      go_wp2_with (at_builtin; refine wpList_append_own _ rfl _ _ 22 rfl w.heap.size 9 i0 (.string ⟨#[]⟩) 1 16 Try.underlying22 hi hz0 hz1 hz2 rfl (by decide) _ _ _ rfl (hrow.alloc _) ⟨wr.heap.size, 0, none⟩ 1 1 [.string (s.extract a k)] rfl rfl (cell_one_new _ _ _) (by simp [Value.oneCell']) (by simp only [maxLen]; omega) (by omega) (by simp; omega) ?_; intro v' w1 hown' hgrow _; obtain ⟨g', cap', rfl⟩ := ownsRow_succ hown')
      · go_roundw
        case rel =>
          refine ⟨k + 1, k + 1, P ++ [(s.data.toList.take k).drop a], by omega, by omega, by simp; omega, by go_num, by go_num, lv_step_sep s k a P hlt (by assumption) H.out, ?_, (hB.alloc hbs _).grown hgrow (by simp; omega) (fun j e => own_base hrow j e)⟩
          rw [map_snoc, List.length_append, strV, ← HP.out]; exact hown'
        case measure => simp [intOf]; omega
      · go_roundw
        case rel => exact ⟨k + 1, a, P, by omega, by omega, by omega, rfl, by go_num, lv_step s k a P hlt hak (by assumption) H.out, hrow, hB⟩
        case measure => simp [intOf]; omega
    · go_wp2_with (at_builtin; refine wpList_append_own _ rfl _ _ 22 rfl w.heap.size 9 i0 (.string ⟨#[]⟩) 1 16 Try.underlying22 hi hz0 hz1 hz2 rfl (by decide) _ _ _ rfl (hrow.alloc _) ⟨wr.heap.size, 0, none⟩ 1 1 [.string (s.extract a s.size)] rfl rfl (cell_one_new _ _ _) (by simp [Value.oneCell']) (by simp only [maxLen]; omega) (by omega) (by simp; omega) ?_; intro v' w1 hown' hgrow _; obtain ⟨g', cap', rfl⟩ := ownsRow_succ hown')
      go_ret
      refine ⟨_, rfl, ?_, (hB.alloc hbs _).grown hgrow (by simp; omega) (fun j e => own_base hrow j e)⟩
      obtain rfl : k = s.size := by omega
      rw [← take_all s s.size (by omega), H.out, map_snoc, List.length_append, strV, ← HP.out]; exact hown'

/-- bellmanref01.Levels, said of its cells. -/
theorem ref_Levels_cells (s : ByteArray) (w : World) (hs : s.size ≤ 1048576) :
    Calls Try.prog 22 #[.string s] w fun e w' => ∃ g cap, e = .returned (.slice (some ⟨g, 0, none⟩) (lv s.data.toList).length cap) ∧ w.heap.size ≤ g ∧ g < w'.heap.size ∧
      (∀ (i : Nat) x, (lv s.data.toList)[i]? = some x → w'.cell? ⟨g, i, none⟩ = some (.string ⟨x.toArray⟩)) ∧ Below w.heap.size w w' := by
  refine (ref_Levels s w hs).mono ?_
  rintro e w1 ⟨v, rfl, hrow, hB⟩
  obtain ⟨g, cap, rfl, hg1, hg2, hc⟩ := RowOf.of_own hrow (lv_ne _)
  exact ⟨g, cap, rfl, hg1, hg2, hc, hB⟩

/-- bellmanref01.Wild. -/
theorem ref_Wild (s : ByteArray) (w : World) (hs : s.size ≤ 1048576) :
    Calls Try.prog 21 #[.string s] w fun e w' => e = .returned (.bool (wildZ s.data.toList)) ∧ Below w.heap.size w w' := by
  obtain ⟨x, r, hx⟩ : ∃ x r, lv s.data.toList = x :: r := by
    cases h : lv s.data.toList with
    | nil => exact absurd h (lv_ne _)
    | cons x r => exact ⟨x, r, rfl⟩
  have H := Lib.hid (show wildZ s.data.toList = ((x == [43]) || (x == [35])) by unfold wildZ; rw [hx]; rfl)
  have HX := Lib.hid hx
  clear hx
  go_enter Try.func21, Try.ntmps21
  go_wp2_with fail
  refine (ref_Levels_cells _ _ hs).mono ?_
  rintro e w1 ⟨g, cap, rfl, hg1, hg2, hc, hB⟩
  have hc0 := hc 0 x (by rw [HX.out]; rfl)
  have hlen : 0 < (lv s.data.toList).length := List.length_pos_iff.2 (lv_ne _)
  clear hc
  go_wp2
  · go_ret
    rename_i h43
    exact ⟨by rw [H.out, h43]; rfl, hB⟩
  · go_ret
    exact ⟨by rw [H.out]; rfl, hB⟩

set_option maxHeartbeats 2000000 in
set_option maxRecDepth 100000 in
/-- bellmanref01.Filter, where its bytes are right. -/
theorem ref_Filter_ok (s : ByteArray) (w : World) (c1 : 1 ≤ s.size) (c2 : s.size ≤ 32) (h0 : hasZ s.data.toList 0 = false) :
    Calls Try.prog 20 #[.string s] w fun e w' => e = .returned (.bool (levelsOk (lv s.data.toList))) ∧ Below w.heap.size w w' := by
  have hs : s.size ≤ 1048576 := by omega
  have d1 : decide ((s.size : Int) < 1) = false := by simp; omega
  have d2 : decide ((32 : Int) < (s.size : Int)) = false := by simp; omega
  have hll : (lv s.data.toList).length ≤ 33 := by
    rw [lv_length]; have := List.count_le_length (a := (47 : UInt8)) (l := s.data.toList); rw [← Lib.size_eq] at this; omega
  go_enter Try.func20, Try.ntmps20
  go_wp2_with fail
  refine (ref_has _ _ _ hs).mono ?_
  rintro e w' ⟨rfl, rfl⟩
  go_wp2_with fail
  refine (ref_Levels_cells _ _ hs).mono ?_
  rintro e w1 ⟨g, cap, rfl, hg1, hg2, hc, hB⟩
  obtain ⟨L, HL⟩ : ∃ L, Hid (lv s.data.toList = L) := ⟨_, rfl⟩
  rw [HL.out] at hc hll ⊢
  have HC := Lib.hid hc
  have HB := Lib.hid hB
  clear hc hB d1 d2 h0
  go_wp2
  go_loop [4] (fun i => ∃ k : Nat, k ≤ L.length ∧ i = .int .i64 k ∧ Hid (∀ (j : Nat) x, j < k → L[j]? = some x → levelOk x (decide (j + 1 = L.length)) = true)) (fun i => L.length - (intOf i).toNat)
  case atStart => exact ⟨0, Nat.zero_le _, rfl, fun j x h => absurd h (by omega)⟩
  case round =>
    obtain ⟨k, hk, rfl, H⟩ := hrel
    by_cases hlt : k < L.length
    · obtain ⟨x, HX⟩ : ∃ x, Hid (L[k]? = some x) := ⟨L[k], List.getElem?_eq_getElem hlt⟩
      have hcx := HC.out k x HX.out
      have hxs : (⟨x.toArray⟩ : ByteArray).size ≤ 1048576 := by
        have h1 := lv_mem_le s.data.toList x (by rw [HL.out]; exact List.mem_of_getElem? HX.out)
        rw [← Lib.size_eq] at h1
        show x.toArray.size ≤ _
        simp; omega
      by_cases hA : x = [43]
      · have HOK := Lib.hid (show levelOk x (decide (k + 1 = L.length)) = true by rw [hA]; rfl)
        have e1 : (x == [43]) = true := by simp [hA]
        have b1 : hasZ x 43 = true := by rw [hA]; rfl
        have b2 : hasZ x 35 = false := by rw [hA]; rfl
        clear hA
        go_wp2_with (go_at_call 31; refine (ref_has _ _ _ hxs).mono ?_; rintro e w' ⟨rfl, rfl⟩)
        go_round
        case rel => exact ⟨k + 1, by omega, by go_num, allOk_step L k x HX.out HOK.out H.out⟩
        case measure => simp [intOf]; omega
      · by_cases hS : x = [35]
        · have e2 : (x == [35]) = true := by simp [hS]
          have b1 : hasZ x 43 = false := by rw [hS]; rfl
          have b2 : hasZ x 35 = true := by rw [hS]; rfl
          by_cases hl : k + 1 = L.length
          · have HOK := Lib.hid (show levelOk x (decide (k + 1 = L.length)) = true by rw [hS, decide_eq_true hl]; rfl)
            have hl2 : decide ((k : Int) < (L.length : Int) - 1) = false := by simp; omega
            clear hA hS hl
            go_wp2_with (go_at_call 31; refine (ref_has _ _ _ hxs).mono ?_; rintro e w' ⟨rfl, rfl⟩)
            go_round
            case rel => exact ⟨k + 1, by omega, by go_num, allOk_step L k x HX.out HOK.out H.out⟩
            case measure => simp [intOf]; omega
          · have HOK := Lib.hid (show levelOk x (decide (k + 1 = L.length)) = false by rw [hS, decide_eq_false hl]; rfl)
            have hl2 : decide ((k : Int) < (L.length : Int) - 1) = true := by simp; omega
            clear hA hS hl
            go_wp2_with (go_at_call 31; refine (ref_has _ _ _ hxs).mono ?_; rintro e w' ⟨rfl, rfl⟩)
            go_ret
            refine ⟨?_, HB.out⟩
            rw [HL.out, levelsOk_bad L k x HX.out HOK.out]; rfl
        · have e1 : (x == [43]) = false := by simpa using hA
          have e2 : (x == [35]) = false := by simpa using hS
          cases b1 : hasZ x 43
          · cases b2 : hasZ x 35
            · have HOK := Lib.hid (show levelOk x (decide (k + 1 = L.length)) = true by rw [levelOk_eq, b1, b2]; rfl)
              clear hA hS
              go_wp2_with (go_at_call 31; refine (ref_has _ _ _ hxs).mono ?_; rintro e w' ⟨rfl, rfl⟩)
              go_round
              case rel => exact ⟨k + 1, by omega, by go_num, allOk_step L k x HX.out HOK.out H.out⟩
              case measure => simp [intOf]; omega
            · have HOK := Lib.hid (show levelOk x (decide (k + 1 = L.length)) = false by rw [levelOk_eq, b1, b2, e2]; rfl)
              clear hA hS
              go_wp2_with (go_at_call 31; refine (ref_has _ _ _ hxs).mono ?_; rintro e w' ⟨rfl, rfl⟩)
              go_ret
              refine ⟨?_, HB.out⟩
              rw [HL.out, levelsOk_bad L k x HX.out HOK.out]; rfl
          · have HOK := Lib.hid (show levelOk x (decide (k + 1 = L.length)) = false by rw [levelOk_eq, b1, e1]; rfl)
            clear hA hS
            go_wp2_with (go_at_call 31; refine (ref_has _ _ _ hxs).mono ?_; rintro e w' ⟨rfl, rfl⟩)
            go_ret
            refine ⟨?_, HB.out⟩
            rw [HL.out, levelsOk_bad L k x HX.out HOK.out]; rfl
    · go_wp2
      go_ret
      refine ⟨?_, HB.out⟩
      rw [HL.out, levelsOk_all L (fun j x h => H.out j x (by omega))]; rfl


/-- bellmanref01.Filter. -/
theorem ref_Filter (s : ByteArray) (w : World) (hs : s.size ≤ 1048576) :
    Calls Try.prog 20 #[.string s] w fun e w' => e = .returned (.bool (filterZ s.data.toList)) ∧ Below w.heap.size w w' := by
  have hl := Lib.size_eq s
  by_cases c1 : 1 ≤ s.size
  · by_cases c2 : s.size ≤ 32
    · cases h0 : hasZ s.data.toList 0
      · refine (ref_Filter_ok s w c1 c2 h0).mono ?_
        rintro e w' ⟨rfl, hB⟩
        refine ⟨?_, hB⟩
        have : bytesOk s.data.toList = true := by unfold bytesOk; rw [← hl, h0]; simp [c1, c2]
        unfold filterZ; rw [this]; rfl
      · have H := Lib.hid (show filterZ s.data.toList = false by unfold filterZ bytesOk; rw [h0]; simp)
        have d1 : decide ((s.size : Int) < 1) = false := by simp; omega
        have d2 : decide ((32 : Int) < (s.size : Int)) = false := by simp; omega
        clear hl
        go_enter Try.func20, Try.ntmps20
        go_wp2_with (go_at_call 31; refine (ref_has _ _ _ hs).mono ?_; rintro e w' ⟨rfl, rfl⟩)
        go_ret
        exact ⟨by rw [H.out]; rfl, Below.refl _ _⟩
    · have H := Lib.hid (show filterZ s.data.toList = false by unfold filterZ bytesOk; rw [← hl]; simp [c2])
      have d1 : decide ((s.size : Int) < 1) = false := by simp; omega
      have d2 : decide ((32 : Int) < (s.size : Int)) = true := by simp; omega
      clear hl
      go_enter Try.func20, Try.ntmps20
      go_wp2
      go_ret
      exact ⟨by rw [H.out]; rfl, Below.refl _ _⟩
  · have H := Lib.hid (show filterZ s.data.toList = false by unfold filterZ bytesOk; rw [← hl]; simp [c1])
    have d1 : decide ((s.size : Int) < 1) = true := by simp; omega
    clear hl
    go_enter Try.func20, Try.ntmps20
    go_wp2
    go_ret
    exact ⟨by rw [H.out]; rfl, Below.refl _ _⟩

end Go.Proofs.Ytabgedmocdjkcaa
