/- Go's own binary search in a rising list of numbers. -/
import Derived.Test.YtmfejpbijllojaaGreatProg
import Derived.Test.YtmfejpbijllojaaGreatCopy3
import Derived.Test.YtmfejpbijllojaaGreatSets3
import Derived.Test.YtmfejpbijllojaaGreatNums
import Derived.Lib.Hide
import Derived.Deep.LoopGhost
import Derived.WalkKit
import Derived.Shelf.Abstract
namespace Go.Proofs.YtmfejpbijllojaaGreat
open Go.RowKit

theorem up_getD {L : List Int} (h : Up L) {a b : Nat} (hab : a ≤ b) (hb : b < L.length) : L.getD a 0 ≤ L.getD b 0 := by
  have e1 : L.getD a 0 = L[a] := by simp [List.getD, List.getElem?_eq_getElem (show a < L.length by omega)]
  have e2 : L.getD b 0 = L[b] := by simp [List.getD, List.getElem?_eq_getElem hb]
  rw [e1, e2]
  by_cases e : a = b
  · subst e; exact Int.le_refl _
  · exact Int.le_of_lt (List.pairwise_iff_getElem.1 h a b (by omega) hb (by omega))
theorem search_end {L : List Int} (h : Up L) (x : Int) (i : Nat) (hi : i ≤ L.length) (h1 : ∀ t, t < i → L.getD t 0 < x) (h2 : ∀ t, i ≤ t → t < L.length → x ≤ L.getD t 0) :
    i = plc (ltB x) L ∧ (decide (x ∈ L) = decide (i < L.length ∧ L.getD i 0 = x)) := by
  have e : i = plc (ltB x) L := plc_of _ L i hi (fun k y hk hy => by
      have := h1 k hk
      rw [List.getD, hy] at this
      simpa using this) (fun y hy => by
      have hl := (List.getElem?_eq_some_iff.1 hy).1
      have := h2 i (Nat.le_refl _) hl
      rw [List.getD, hy] at this
      simpa using this)
  refine ⟨e, ?_⟩
  rw [decide_eq_decide]
  constructor
  · intro hx
    have := get_plc h hx
    rw [← e] at this
    exact ⟨(List.getElem?_eq_some_iff.1 this).1, by rw [List.getD, this]; rfl⟩
  · rintro ⟨h3, h4⟩
    rw [List.getD, List.getElem?_eq_getElem h3] at h4
    exact h4 ▸ List.getElem_mem h3

theorem cmp_isNaN_int (x : Int) (w : World) : Calls Tryz.prog 90 #[.int .i64 x] w fun e w' => e = .returned (.bool false) ∧ w = w' := by
  go_enter Tryz.func90, Tryz.ntmps90
  go_wp2
  go_ret
  exact ⟨by simp, rfl⟩
theorem slices_isNaN_int (x : Int) (w : World) : Calls Tryz.prog 75 #[.int .i64 x] w fun e w' => e = .returned (.bool false) ∧ w = w' := by
  go_enter Tryz.func75, Tryz.ntmps75
  go_wp2
  go_ret
  exact ⟨by simp, rfl⟩
theorem cmp_Less_int (x y : Int) (w : World) : Calls Tryz.prog 74 #[.int .i64 x, .int .i64 y] w fun e w' => e = .returned (.bool (decide (x < y))) ∧ w = w' := by
  go_enter Tryz.func74, Tryz.ntmps74
  go_wp2_with (go_at_call 90; refine (cmp_isNaN_int _ _).mono ?_; rintro e w' ⟨rfl, rfl⟩)
  go_ret
  exact ⟨rfl, rfl⟩

set_option maxHeartbeats 2000000 in
set_option maxRecDepth 100000 in
theorem search_none (x : Int) (a : Option Addr) (c : Nat) (w : World) :
    Calls Tryz.prog 53 #[.slice a 0 c, .int .i64 x] w fun e w' => e = .returned (.tuple #[.int .i64 0, .bool false]) ∧ w = w' := by
  go_enter Tryz.func53, Tryz.ntmps53
  go_wp2
  go_loopg [7, 8] 0 (fun _ s7 s8 wr => s7 = .int .i64 0 ∧ s8 = .int .i64 0 ∧ wr = w)
  case atStart => exact ⟨rfl, rfl, rfl⟩
  case round =>
    obtain ⟨rfl, rfl, rfl⟩ := hrel
    go_wp2
    go_ret2
    exact ⟨rfl, rfl⟩

set_option maxHeartbeats 4000000 in
set_option maxRecDepth 1000000 in
theorem search_some (b off c : Nat) (L : List Int) (x : Int) (w : World) (hbig : L.length ≤ 1000000) (hc : CellsAt w b off (L.map numV)) (hu : Up L) :
    Calls Tryz.prog 53 #[.slice (some ⟨b, off, none⟩) L.length c, .int .i64 x] w fun e w' => e = .returned (.tuple #[.int .i64 (plc (ltB x) L : Nat), .bool (decide (x ∈ L))]) ∧ w = w' := by
  obtain ⟨n, hn⟩ : ∃ n, L.length = n := ⟨_, rfl⟩
  have HN := Lib.hid hn
  have S : Hid (∀ a b, a ≤ b → b < n → L.getD a 0 ≤ L.getD b 0) := fun a b h1 h2 => up_getD hu h1 (by omega)
  have C : Hid (∀ i, i < n → w.cell? ⟨b, off + i, none⟩ = some (.int .i64 (L.getD i 0))) := fun i hi => cells_num hc i (by omega)
  have E : Hid (∀ i, i ≤ n → (∀ t, t < i → L.getD t 0 < x) → (∀ t, i ≤ t → t < n → x ≤ L.getD t 0) → i = plc (ltB x) L ∧ (decide (x ∈ L) = decide (i < n ∧ L.getD i 0 = x))) := fun i h1 h2 h3 => by subst hn; exact search_end hu x i h1 h2 h3
  rw [hn] at hbig ⊢
  clear hc hu hn
  go_enter Tryz.func53, Tryz.ntmps53
  go_wp2
  go_loopg [7, 8] n (fun g s7 s8 wr => ∃ lo hi : Nat, s7 = .int .i64 lo ∧ s8 = .int .i64 hi ∧ lo ≤ hi ∧ hi ≤ n ∧ hi - lo ≤ g ∧ wr = w ∧ Hid (∀ t, t < lo → L.getD t 0 < x) ∧ Hid (∀ t, hi ≤ t → t < n → x ≤ L.getD t 0))
  case atStart => exact ⟨0, n, rfl, rfl, Nat.zero_le _, Nat.le_refl _, by omega, rfl, fun t ht => absurd ht (Nat.not_lt_zero _), fun t h1 h2 => by omega⟩
  case round =>
    obtain ⟨lo, hi, rfl, rfl, hlh, hin, hg, rfl, I1, I2⟩ := hrel
    by_cases hlt : lo < hi
    · have cm := C.out ((lo + hi) / 2) (by omega)
      generalize hy : L.getD ((lo + hi) / 2) 0 = y at cm
      have Y := Lib.hid hy
      clear hy
      by_cases hyx : y < x
      · go_wp2_with (first | (go_at_call 74; refine (cmp_Less_int _ _ _).mono ?_; rintro e w' ⟨rfl, rfl⟩) | (go_at_call 75; refine (slices_isNaN_int _ _).mono ?_; rintro e w' ⟨rfl, rfl⟩))
        go_roundg (hi - ((lo + hi) / 2 + 1))
        case measure => omega
        case rel =>
          refine ⟨(lo + hi) / 2 + 1, hi, by rw [show ((lo : Int) + (hi : Int)) / 2 + 1 = (((lo + hi) / 2 + 1 : Nat) : Int) by omega], rfl, by omega, hin, Nat.le_refl _, rfl, fun t ht => ?_, I2.out⟩
          have := S.out t ((lo + hi) / 2) (by omega) (by omega)
          rw [Y.out] at this
          omega
      · go_wp2_with (first | (go_at_call 74; refine (cmp_Less_int _ _ _).mono ?_; rintro e w' ⟨rfl, rfl⟩) | (go_at_call 75; refine (slices_isNaN_int _ _).mono ?_; rintro e w' ⟨rfl, rfl⟩))
        go_roundg ((lo + hi) / 2 - lo)
        case measure => omega
        case rel =>
          refine ⟨lo, (lo + hi) / 2, rfl, by rw [show ((lo : Int) + (hi : Int)) / 2 = (((lo + hi) / 2 : Nat) : Int) by omega], by omega, by omega, Nat.le_refl _, rfl, I1.out, fun t ht htn => ?_⟩
          have := S.out ((lo + hi) / 2) t ht htn
          rw [Y.out] at this
          omega
    · have : hi = lo := by omega
      subst this
      have E2 := Lib.hid (E.out hi hin I1.out I2.out)
      by_cases hn : hi < n
      · have cl := C.out hi hn
        generalize hy : L.getD hi 0 = y at cl
        have Y := Lib.hid hy
        clear hy
        by_cases hyx : y = x
        · subst hyx
          go_wp2_with (first | (go_at_call 74; refine (cmp_Less_int _ _ _).mono ?_; rintro e w' ⟨rfl, rfl⟩) | (go_at_call 75; refine (slices_isNaN_int _ _).mono ?_; rintro e w' ⟨rfl, rfl⟩))
          go_ret2
          refine ⟨?_, rfl⟩
          rw [E2.out.2, ← E2.out.1, Y.out]
          simp [hn]
        · have hyx' : (y == x) = false := by simpa using hyx
          go_wp2_with (first | (go_at_call 74; refine (cmp_Less_int _ _ _).mono ?_; rintro e w' ⟨rfl, rfl⟩) | (go_at_call 75; refine (slices_isNaN_int _ _).mono ?_; rintro e w' ⟨rfl, rfl⟩))
          go_ret2
          refine ⟨?_, rfl⟩
          rw [E2.out.2, ← E2.out.1, Y.out]
          simp [hyx]
      · go_wp2
        go_ret2
        refine ⟨?_, rfl⟩
        rw [E2.out.2, ← E2.out.1]
        simp [hn]

/-- slices.BinarySearch. -/
theorem search_nums (s : Value) (L : List Int) (x : Int) (w : World) (hs : NumsIn w s L) (hu : Up L) (hbig : L.length ≤ 1000000) :
    Calls Tryz.prog 53 #[s, .int .i64 x] w fun e w' => e = .returned (.tuple #[.int .i64 (plc (ltB x) L : Nat), .bool (decide (x ∈ L))]) ∧ w = w' := by
  rcases hs.2 with ⟨rfl, h0⟩ | ⟨b, off, cap, rfl, _, _, hc⟩
  · obtain rfl : L = [] := List.eq_nil_of_length_eq_zero h0
    exact (search_none x none 0 w).mono fun e w' h => by simpa [plc] using h
  · exact search_some b off cap L x w hbig hc hu

end Go.Proofs.YtmfejpbijllojaaGreat
