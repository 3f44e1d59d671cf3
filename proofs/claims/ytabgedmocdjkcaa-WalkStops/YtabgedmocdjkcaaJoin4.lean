/- Small facts on worlds that all layers use. Whatever program. · Go's own binary search by a function, as package set asks it for a key's entry. · Slices of numbers, by the list of them. · Go's own binary search in a rising list of numbers. -/
import Derived.RangeFuncNested
import Derived.RangeFuncBox
import Derived.RangeFuncBound
import Derived.Deep.Draws
import Derived.Shelf.Abstract
import Derived.WalkKit
import Derived.Test.YtabgedmocdjkcaaProg
import Derived.Test.YtabgedmocdjkcaaJoin1
import Derived.Test.YtabgedmocdjkcaaKeys3
import Derived.Lib.Hide
import Derived.Lib.Strings
import Derived.Laws.Cover1
import Derived.Deep.LoopGhost
import Derived.Test.YtabgedmocdjkcaaSets3
namespace Go.Proofs.Ytabgedmocdjkcaa
open Go.RowKit Go.Shelf

theorem below_step {w a b : World} (h : Below w.heap.size w a) (k : Below a.heap.size a b) : Below w.heap.size w b := h.trans (k.mono h.size)
theorem below_draws {B : Nat} {a w : World} (h : Below B a w) (n : Nat) : Below B a (w.drewN n) := ⟨h.os, h.tape, h.output, h.size, h.block⟩
theorem boxed_below {W W' : World} {n B : Nat} {t : TypeId} {v : Value} (h : Boxed W B t v) (hb : Below n W W') (hlt : B < n) : Boxed W' B t v := (hb.block B hlt).trans h
theorem boxedEx_own {β : Type} (B : Nat) (t : TypeId) (Q : β → Value → Prop) : Own (fun (s : β) W => ∃ v, Boxed W B t v ∧ Q s v) := fun s X Y row ⟨v, hs, hq⟩ hg hrow =>
  ⟨v, boxed_own B t (fun _ : β => v) s X Y row hs hg hrow, hq⟩
theorem data_cat (a b : ByteArray) : (a ++ b).data.toList = a.data.toList ++ b.data.toList := by simp

theorem heap_alloc_at (W : World) (o : Obj) (k : Nat) : (W.alloc o).heap[k]? = if k = W.heap.size then some o else W.heap[k]? := by
  show (W.heap.push o)[k]? = _
  rw [Array.getElem?_push]

end Go.Proofs.Ytabgedmocdjkcaa

namespace Go.Proofs.Ytabgedmocdjkcaa
open Go.RowKit

abbrev keyV (k : Key) : Value := .string ⟨k.toArray⟩
/-- An entry's cells. -/
abbrev encE (p : Ent) : List Value := [keyV p.1, .int .i64 p.2]
/-- A slice of entries. -/
abbrev EntsIn (W : World) (v : Value) (E : List Ent) : Prop := SliceK W 2 v E.length (E.flatMap encE)
theorem ents_len : ∀ E : List Ent, (E.flatMap encE).length = E.length * 2
  | [] => rfl
  | p :: r => by
    rw [List.flatMap_cons, List.length_append, ents_len r]
    simp only [List.length_cons, List.length_nil]; omega
theorem ents_at : ∀ (E : List Ent) (i : Nat) (p : Ent), E[i]? = some p → (E.flatMap encE)[i * 2]? = some (keyV p.1) ∧ (E.flatMap encE)[i * 2 + 1]? = some (.int .i64 p.2)
  | [], i, p, h => by simp at h
  | q :: r, 0, p, h => by
    obtain rfl : q = p := by simpa using h
    simp [List.flatMap_cons]
  | q :: r, i + 1, p, h => by
    have := ents_at r i p (by simpa using h)
    rw [List.flatMap_cons, show (i + 1) * 2 = (i * 2) + 2 by omega, show i * 2 + 2 + 1 = (i * 2 + 1) + 2 by omega]
    simpa using this
theorem ents_take : ∀ (E : List Ent) (n : Nat), (E.flatMap encE).take (n * 2) = (E.take n).flatMap encE
  | [], n => by simp
  | p :: r, 0 => by simp
  | p :: r, n + 1 => by
    rw [List.flatMap_cons, List.take_succ_cons, List.flatMap_cons, ← ents_take r n, show (n + 1) * 2 = n * 2 + 2 by omega]
    simp
theorem ents_drop : ∀ (E : List Ent) (n : Nat), (E.flatMap encE).drop (n * 2) = (E.drop n).flatMap encE
  | [], n => by simp
  | p :: r, 0 => by simp
  | p :: r, n + 1 => by
    rw [List.flatMap_cons, List.drop_succ_cons, ← ents_drop r n, show (n + 1) * 2 = n * 2 + 2 by omega]
    simp

theorem cmp_isNaN_string (x : ByteArray) (w : World) : Calls Try.prog 97 #[.string x] w fun e w' => e = .returned (.bool false) ∧ w = w' := by
  go_enter Try.func97, Try.ntmps97
  go_wp2
  go_ret
  exact ⟨by simp, rfl⟩

/-- How one key stands to another. -/
def cmpK (a b : Key) : Int := if bl a b then -1 else if a = b then 0 else 1
theorem cmpK_lt {a b : Key} (h : bl a b = true) : cmpK a b = -1 := by simp [cmpK, h]
theorem cmpK_eq (a : Key) : cmpK a a = 0 := by simp [cmpK, bl_irrefl]
theorem cmpK_gt {a b : Key} (h : bl a b = false) (hne : a ≠ b) : cmpK a b = 1 := by simp [cmpK, h, hne]

set_option maxHeartbeats 1000000 in
theorem cmp_Compare (a b : Key) (w : World) : Calls Try.prog 89 #[keyV a, keyV b] w fun e w' => e = .returned (.int .i64 (cmpK a b)) ∧ w = w' := by
  have t1 := Lib.toList_data ⟨a.toArray⟩
  have t2 := Lib.toList_data ⟨b.toArray⟩
  cases h1 : bl a b
  · by_cases hab : a = b
    · subst hab
      rw [cmpK_eq]
      have h2 : Op.bytesLess (⟨a.toArray⟩ : ByteArray).toList (⟨a.toArray⟩ : ByteArray).toList = false := by rw [t1]; exact h1
      go_enter Try.func89, Try.ntmps89
      go_wp2_with (go_at_call 97; refine (cmp_isNaN_string _ _).mono ?_; rintro e w' ⟨rfl, rfl⟩)
      go_ret
      exact ⟨rfl, rfl⟩
    · rw [cmpK_gt h1 hab]
      have h2 : Op.bytesLess (⟨a.toArray⟩ : ByteArray).toList (⟨b.toArray⟩ : ByteArray).toList = false := by rw [t1, t2]; exact h1
      have h4 : (a == b) = false := by simpa using hab
      have h3 : ((⟨a.toArray⟩ : ByteArray).toList == (⟨b.toArray⟩ : ByteArray).toList) = false := by rw [t1, t2]; simpa using hab
      go_enter Try.func89, Try.ntmps89
      go_wp2_with (go_at_call 97; refine (cmp_isNaN_string _ _).mono ?_; rintro e w' ⟨rfl, rfl⟩)
      go_ret
      exact ⟨rfl, rfl⟩
  · rw [cmpK_lt h1]
    have h2 : Op.bytesLess (⟨a.toArray⟩ : ByteArray).toList (⟨b.toArray⟩ : ByteArray).toList = true := by rw [t1, t2]; exact h1
    go_enter Try.func89, Try.ntmps89
    go_wp2_with (go_at_call 97; refine (cmp_isNaN_string _ _).mono ?_; rintro e w' ⟨rfl, rfl⟩)
    go_ret
    exact ⟨rfl, rfl⟩

theorem bsearch_end {E : List Ent} (k : Key) (i : Nat) (hi : i ≤ E.length) (h1 : ∀ t p, t < i → E[t]? = some p → bl p.1 k = true) (h2 : ∀ t p, i ≤ t → E[t]? = some p → bl p.1 k = false) : i = plc (ltE k) E :=
  plc_of _ E i hi (fun t p ht hp => h1 t p ht hp) (fun p hp => h2 i p (Nat.le_refl _) hp)
theorem kup_mono {E : List Ent} (h : KUp E) {k : Key} {s t : Nat} {p q : Ent} (hs : E[s]? = some p) (ht : E[t]? = some q) (hst : s ≤ t) (hq : bl q.1 k = true) : bl p.1 k = true := by
  by_cases e : s = t
  · subst e; rw [hs] at ht; cases ht; exact hq
  · obtain ⟨h1, rfl⟩ := List.getElem?_eq_some_iff.1 hs
    obtain ⟨h2, rfl⟩ := List.getElem?_eq_some_iff.1 ht
    exact bl_trans (List.pairwise_iff_getElem.1 h s t h1 h2 (by omega)) hq

/-- A map with texts as keys and numbers as values. -/
def MapIn (W : World) (v : Value) (E : List Ent) : Prop := (∃ s, v = .agg #[s] ∧ EntsIn W s E) ∧ KUp E
theorem MapIn.below {W W' : World} {v : Value} {E : List Ent} (h : MapIn W v E) (hb : Below W.heap.size W W') : MapIn W' v E := by
  obtain ⟨⟨s, hv, hs⟩, hu⟩ := h
  exact ⟨⟨s, hv, hs.below hb⟩, hu⟩
theorem MapIn.form {W : World} {v : Value} {E : List Ent} (h : MapIn W v E) : ∃ a n c, v = .agg #[.slice a n c] := by
  obtain ⟨⟨s, rfl, hs⟩, _⟩ := h
  rcases hs.2 with ⟨rfl, _⟩ | ⟨b, off, cap, rfl, _⟩
  · exact ⟨_, _, _, rfl⟩
  · exact ⟨_, _, _, rfl⟩

end Go.Proofs.Ytabgedmocdjkcaa

namespace Go.Proofs.Ytabgedmocdjkcaa
open Go.RowKit

theorem infoInt : (Try.prog.info? 3).map (fun i => (i.zero, i.size, i.bytes)) = some (some (.int .i64 0), 1, 8) := by kernel_rfl
abbrev numV (x : Int) : Value := .int .i64 x
/-- A slice of numbers. -/
abbrev NumsIn (W : World) (v : Value) (L : List Int) : Prop := SliceK W 1 v L.length (L.map numV)
theorem cells_num {W : World} {b off : Nat} {L : List Int} (h : CellsAt W b off (L.map numV)) (i : Nat) (hi : i < L.length) : W.cell? ⟨b, off + i, none⟩ = some (.int .i64 (L.getD i 0)) := by
  refine h i _ ?_
  rw [List.getElem?_map, List.getElem?_eq_getElem hi]
  simp [List.getD, List.getElem?_eq_getElem hi]
theorem NumsIn.form {W : World} {v : Value} {L : List Int} (h : NumsIn W v L) : ∃ a c, v = .slice a L.length c ∧ ∀ k, k < L.length → ∃ b off, a = some ⟨b, off, none⟩ ∧ b < W.heap.size ∧ W.cell? ⟨b, off + k, none⟩ = some (.int .i64 (L.getD k 0)) := by
  rcases h.2 with ⟨rfl, h0⟩ | ⟨b, off, cap, rfl, _, hb, hc⟩
  · exact ⟨none, 0, by rw [h0], fun k hk => by omega⟩
  · exact ⟨_, cap, rfl, fun k hk => ⟨b, off, rfl, hb, cells_num hc k hk⟩⟩
theorem own_base3 {w : World} {base : Nat} {e : TypeId} {size : Nat} {v : Value} {n : Nat} {xs : List Value} (h : w.ownsRow base e size v n xs) (k : Nat) (hk : v.ownBlock = some k) : base ≤ k := by
  rcases h.2 with ⟨rfl, _⟩ | ⟨g, cap, cur, rfl, hb, _⟩
  · simp [Value.ownBlock] at hk
  · simp [Value.ownBlock] at hk; omega
theorem getD_at {L : List Int} {k : Nat} (hk : k < L.length) : L.getD k 0 = L[k] := by simp [List.getD, List.getElem?_eq_getElem hk]

theorem own_snoc {W : World} {B : Nat} {v : Value} {n : Nat} {M : List Int} {y : Int} (h : W.ownsRow B 3 1 v n (M.map numV ++ [numV y])) (hn : n = (M ++ [y]).length) : W.ownsRow B 3 1 v (M ++ [y]).length ((M ++ [y]).map numV) := by
  rw [← hn, List.map_append]; exact h

end Go.Proofs.Ytabgedmocdjkcaa

namespace Go.Proofs.Ytabgedmocdjkcaa
open Go.RowKit

theorem up_getD {L : List Int} (h : Up L) {a b : Nat} (hab : a ≤ b) (hb : b < L.length) : L.getD a 0 ≤ L.getD b 0 := by
  have e1 : L.getD a 0 = L[a] := by simp [List.getD, List.getElem?_eq_getElem (show a < L.length by omega)]
  have e2 : L.getD b 0 = L[b] := by simp [List.getD, List.getElem?_eq_getElem hb]
  rw [e1, e2]
  by_cases e : a = b
  · subst e; exact Int.le_refl _
  · exact Int.le_of_lt (List.pairwise_iff_getElem.1 h a b (by omega) hb (by omega))
theorem search_end {L : List Int} (h : Up L) (x : Int) (i : Nat) (hi : i ≤ L.length) (h1 : ∀ t, t < i → L.getD t 0 < x) (h2 : ∀ t, i ≤ t → t < L.length → x ≤ L.getD t 0) :
    i = plc (ltB x) L ∧ (decide (x ∈ L) = decide (i < L.length ∧ L.getD i 0 = x)) := by
  have e : i = plc (ltB x) L := plc_of _ L i hi (fun k y hk hy => by
      have := h1 k hk
      rw [List.getD, hy] at this
      simpa using this) (fun y hy => by
      have hl := (List.getElem?_eq_some_iff.1 hy).1
      have := h2 i (Nat.le_refl _) hl
      rw [List.getD, hy] at this
      simpa using this)
  refine ⟨e, ?_⟩
  rw [decide_eq_decide]
  constructor
  · intro hx
    have := get_plc h hx
    rw [← e] at this
    exact ⟨(List.getElem?_eq_some_iff.1 this).1, by rw [List.getD, this]; rfl⟩
  · rintro ⟨h3, h4⟩
    rw [List.getD, List.getElem?_eq_getElem h3] at h4
    exact h4 ▸ List.getElem_mem h3

theorem cmp_isNaN_int (x : Int) (w : World) : Calls Try.prog 98 #[.int .i64 x] w fun e w' => e = .returned (.bool false) ∧ w = w' := by
  go_enter Try.func98, Try.ntmps98
  go_wp2
  go_ret
  exact ⟨by simp, rfl⟩
theorem slices_isNaN_int (x : Int) (w : World) : Calls Try.prog 91 #[.int .i64 x] w fun e w' => e = .returned (.bool false) ∧ w = w' := by
  go_enter Try.func91, Try.ntmps91
  go_wp2
  go_ret
  exact ⟨by simp, rfl⟩
theorem cmp_Less_int (x y : Int) (w : World) : Calls Try.prog 90 #[.int .i64 x, .int .i64 y] w fun e w' => e = .returned (.bool (decide (x < y))) ∧ w = w' := by
  go_enter Try.func90, Try.ntmps90
  go_wp2_with (go_at_call 98; refine (cmp_isNaN_int _ _).mono ?_; rintro e w' ⟨rfl, rfl⟩)
  go_ret
  exact ⟨rfl, rfl⟩

set_option maxHeartbeats 2000000 in
set_option maxRecDepth 100000 in
theorem search_none (x : Int) (a : Option Addr) (c : Nat) (w : World) :
    Calls Try.prog 75 #[.slice a 0 c, .int .i64 x] w fun e w' => e = .returned (.tuple #[.int .i64 0, .bool false]) ∧ w = w' := by
  go_enter Try.func75, Try.ntmps75
  go_wp2
  go_loopg [7, 8] 0 (fun _ s7 s8 wr => s7 = .int .i64 0 ∧ s8 = .int .i64 0 ∧ wr = w)
  case atStart => exact ⟨rfl, rfl, rfl⟩
  case round =>
    obtain ⟨rfl, rfl, rfl⟩ := hrel
    go_wp2
    go_ret2
    exact ⟨rfl, rfl⟩

set_option maxHeartbeats 4000000 in
set_option maxRecDepth 1000000 in
theorem search_some (b off c : Nat) (L : List Int) (x : Int) (w : World) (hbig : L.length ≤ 1000000) (hc : CellsAt w b off (L.map numV)) (hu : Up L) :
    Calls Try.prog 75 #[.slice (some ⟨b, off, none⟩) L.length c, .int .i64 x] w fun e w' => e = .returned (.tuple #[.int .i64 (plc (ltB x) L : Nat), .bool (decide (x ∈ L))]) ∧ w = w' := by
  obtain ⟨n, hn⟩ : ∃ n, L.length = n := ⟨_, rfl⟩
  have HN := Lib.hid hn
  have S : Hid (∀ a b, a ≤ b → b < n → L.getD a 0 ≤ L.getD b 0) := fun a b h1 h2 => up_getD hu h1 (by omega)
  have C : Hid (∀ i, i < n → w.cell? ⟨b, off + i, none⟩ = some (.int .i64 (L.getD i 0))) := fun i hi => cells_num hc i (by omega)
  have E : Hid (∀ i, i ≤ n → (∀ t, t < i → L.getD t 0 < x) → (∀ t, i ≤ t → t < n → x ≤ L.getD t 0) → i = plc (ltB x) L ∧ (decide (x ∈ L) = decide (i < n ∧ L.getD i 0 = x))) := fun i h1 h2 h3 => by subst hn; exact search_end hu x i h1 h2 h3
  rw [hn] at hbig ⊢
  clear hc hu hn
  go_enter Try.func75, Try.ntmps75
  go_wp2
  go_loopg [7, 8] n (fun g s7 s8 wr => ∃ lo hi : Nat, s7 = .int .i64 lo ∧ s8 = .int .i64 hi ∧ lo ≤ hi ∧ hi ≤ n ∧ hi - lo ≤ g ∧ wr = w ∧ Hid (∀ t, t < lo → L.getD t 0 < x) ∧ Hid (∀ t, hi ≤ t → t < n → x ≤ L.getD t 0))
  case atStart => exact ⟨0, n, rfl, rfl, Nat.zero_le _, Nat.le_refl _, by omega, rfl, fun t ht => absurd ht (Nat.not_lt_zero _), fun t h1 h2 => by omega⟩
  case round =>
    obtain ⟨lo, hi, rfl, rfl, hlh, hin, hg, rfl, I1, I2⟩ := hrel
    by_cases hlt : lo < hi
    · have cm := C.out ((lo + hi) / 2) (by omega)
      generalize hy : L.getD ((lo + hi) / 2) 0 = y at cm
      have Y := Lib.hid hy
      clear hy
      by_cases hyx : y < x
      · go_wp2_with (first | (go_at_call 90; refine (cmp_Less_int _ _ _).mono ?_; rintro e w' ⟨rfl, rfl⟩) | (go_at_call 91; refine (slices_isNaN_int _ _).mono ?_; rintro e w' ⟨rfl, rfl⟩))
        go_roundg (hi - ((lo + hi) / 2 + 1))
        case measure => omega
        case rel =>
          refine ⟨(lo + hi) / 2 + 1, hi, by rw [show ((lo : Int) + (hi : Int)) / 2 + 1 = (((lo + hi) / 2 + 1 : Nat) : Int) by omega], rfl, by omega, hin, Nat.le_refl _, rfl, fun t ht => ?_, I2.out⟩
          have := S.out t ((lo + hi) / 2) (by omega) (by omega)
          rw [Y.out] at this
          omega
      · go_wp2_with (first | (go_at_call 90; refine (cmp_Less_int _ _ _).mono ?_; rintro e w' ⟨rfl, rfl⟩) | (go_at_call 91; refine (slices_isNaN_int _ _).mono ?_; rintro e w' ⟨rfl, rfl⟩))
        go_roundg ((lo + hi) / 2 - lo)
        case measure => omega
        case rel =>
          refine ⟨lo, (lo + hi) / 2, rfl, by rw [show ((lo : Int) + (hi : Int)) / 2 = (((lo + hi) / 2 : Nat) : Int) by omega], by omega, by omega, Nat.le_refl _, rfl, I1.out, fun t ht htn => ?_⟩
          have := S.out ((lo + hi) / 2) t ht htn
          rw [Y.out] at this
          omega
    · have : hi = lo := by omega
      subst this
      have E2 := Lib.hid (E.out hi hin I1.out I2.out)
      by_cases hn : hi < n
      · have cl := C.out hi hn
        generalize hy : L.getD hi 0 = y at cl
        have Y := Lib.hid hy
        clear hy
        by_cases hyx : y = x
        · subst hyx
          go_wp2_with (first | (go_at_call 90; refine (cmp_Less_int _ _ _).mono ?_; rintro e w' ⟨rfl, rfl⟩) | (go_at_call 91; refine (slices_isNaN_int _ _).mono ?_; rintro e w' ⟨rfl, rfl⟩))
          go_ret2
          refine ⟨?_, rfl⟩
          rw [E2.out.2, ← E2.out.1, Y.out]
          simp [hn]
        · have hyx' : (y == x) = false := by simpa using hyx
          go_wp2_with (first | (go_at_call 90; refine (cmp_Less_int _ _ _).mono ?_; rintro e w' ⟨rfl, rfl⟩) | (go_at_call 91; refine (slices_isNaN_int _ _).mono ?_; rintro e w' ⟨rfl, rfl⟩))
          go_ret2
          refine ⟨?_, rfl⟩
          rw [E2.out.2, ← E2.out.1, Y.out]
          simp [hyx]
      · go_wp2
        go_ret2
        refine ⟨?_, rfl⟩
        rw [E2.out.2, ← E2.out.1]
        simp [hn]

/-- slices.BinarySearch. -/
theorem search_nums (s : Value) (L : List Int) (x : Int) (w : World) (hs : NumsIn w s L) (hu : Up L) (hbig : L.length ≤ 1000000) :
    Calls Try.prog 75 #[s, .int .i64 x] w fun e w' => e = .returned (.tuple #[.int .i64 (plc (ltB x) L : Nat), .bool (decide (x ∈ L))]) ∧ w = w' := by
  rcases hs.2 with ⟨rfl, h0⟩ | ⟨b, off, cap, rfl, _, _, hc⟩
  · obtain rfl : L = [] := List.eq_nil_of_length_eq_zero h0
    exact (search_none x none 0 w).mono fun e w' h => by simpa [plc] using h
  · exact search_some b off cap L x w hbig hc hu

end Go.Proofs.Ytabgedmocdjkcaa
