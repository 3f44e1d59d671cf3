/- Go's own binary search by a function, as package set asks it for a key's entry. -/
import Derived.Test.YtlfehhegkpoojaaProg
import Derived.Test.YtlfehhegkpoojaaCopy3
import Derived.Test.YtlfehhegkpoojaaKeys3
import Derived.Test.YtlfehhegkpoojaaBase
import Derived.Lib.Hide
import Derived.Lib.Strings
import Derived.Laws.Cover1
import Derived.Deep.LoopGhost
import Derived.WalkKit
import Derived.Shelf.Abstract
namespace Go.Proofs.Ytlfehhegkpoojaa
open Go.RowKit

abbrev keyV (k : Key) : Value := .string ⟨k.toArray⟩
/-- An entry's cells. -/
abbrev encE (p : Ent) : List Value := [keyV p.1, .int .i64 p.2]
/-- A slice of entries. -/
abbrev EntsIn (W : World) (v : Value) (E : List Ent) : Prop := SliceK W 2 v E.length (E.flatMap encE)
theorem ents_len : ∀ E : List Ent, (E.flatMap encE).length = E.length * 2
  | [] => rfl
  | p :: r => by
    rw [List.flatMap_cons, List.length_append, ents_len r]
    simp only [List.length_cons, List.length_nil]; omega
theorem ents_at : ∀ (E : List Ent) (i : Nat) (p : Ent), E[i]? = some p → (E.flatMap encE)[i * 2]? = some (keyV p.1) ∧ (E.flatMap encE)[i * 2 + 1]? = some (.int .i64 p.2)
  | [], i, p, h => by simp at h
  | q :: r, 0, p, h => by
    obtain rfl : q = p := by simpa using h
    simp [List.flatMap_cons]
  | q :: r, i + 1, p, h => by
    have := ents_at r i p (by simpa using h)
    rw [List.flatMap_cons, show (i + 1) * 2 = (i * 2) + 2 by omega, show i * 2 + 2 + 1 = (i * 2 + 1) + 2 by omega]
    simpa using this
theorem ents_take : ∀ (E : List Ent) (n : Nat), (E.flatMap encE).take (n * 2) = (E.take n).flatMap encE
  | [], n => by simp
  | p :: r, 0 => by simp
  | p :: r, n + 1 => by
    rw [List.flatMap_cons, List.take_succ_cons, List.flatMap_cons, ← ents_take r n, show (n + 1) * 2 = n * 2 + 2 by omega]
    simp
theorem ents_drop : ∀ (E : List Ent) (n : Nat), (E.flatMap encE).drop (n * 2) = (E.drop n).flatMap encE
  | [], n => by simp
  | p :: r, 0 => by simp
  | p :: r, n + 1 => by
    rw [List.flatMap_cons, List.drop_succ_cons, ← ents_drop r n, show (n + 1) * 2 = n * 2 + 2 by omega]
    simp

theorem cmp_isNaN_string (x : ByteArray) (w : World) : Calls Try.prog 56 #[.string x] w fun e w' => e = .returned (.bool false) ∧ w = w' := by
  go_enter Try.func56, Try.ntmps56
  go_wp2
  go_ret
  exact ⟨by simp, rfl⟩

/-- How one key stands to another. -/
def cmpK (a b : Key) : Int := if bl a b then -1 else if a = b then 0 else 1
theorem cmpK_lt {a b : Key} (h : bl a b = true) : cmpK a b = -1 := by simp [cmpK, h]
theorem cmpK_eq (a : Key) : cmpK a a = 0 := by simp [cmpK, bl_irrefl]
theorem cmpK_gt {a b : Key} (h : bl a b = false) (hne : a ≠ b) : cmpK a b = 1 := by simp [cmpK, h, hne]

set_option maxHeartbeats 1000000 in
theorem cmp_Compare (a b : Key) (w : World) : Calls Try.prog 43 #[keyV a, keyV b] w fun e w' => e = .returned (.int .i64 (cmpK a b)) ∧ w = w' := by
  have t1 := Lib.toList_data ⟨a.toArray⟩
  have t2 := Lib.toList_data ⟨b.toArray⟩
  cases h1 : bl a b
  · by_cases hab : a = b
    · subst hab
      rw [cmpK_eq]
      have h2 : Op.bytesLess (⟨a.toArray⟩ : ByteArray).toList (⟨a.toArray⟩ : ByteArray).toList = false := by rw [t1]; exact h1
      go_enter Try.func43, Try.ntmps43
      go_wp2_with (go_at_call 56; refine (cmp_isNaN_string _ _).mono ?_; rintro e w' ⟨rfl, rfl⟩)
      go_ret
      exact ⟨rfl, rfl⟩
    · rw [cmpK_gt h1 hab]
      have h2 : Op.bytesLess (⟨a.toArray⟩ : ByteArray).toList (⟨b.toArray⟩ : ByteArray).toList = false := by rw [t1, t2]; exact h1
      have h4 : (a == b) = false := by simpa using hab
      have h3 : ((⟨a.toArray⟩ : ByteArray).toList == (⟨b.toArray⟩ : ByteArray).toList) = false := by rw [t1, t2]; simpa using hab
      go_enter Try.func43, Try.ntmps43
      go_wp2_with (go_at_call 56; refine (cmp_isNaN_string _ _).mono ?_; rintro e w' ⟨rfl, rfl⟩)
      go_ret
      exact ⟨rfl, rfl⟩
  · rw [cmpK_lt h1]
    have h2 : Op.bytesLess (⟨a.toArray⟩ : ByteArray).toList (⟨b.toArray⟩ : ByteArray).toList = true := by rw [t1, t2]; exact h1
    go_enter Try.func43, Try.ntmps43
    go_wp2_with (go_at_call 56; refine (cmp_isNaN_string _ _).mono ?_; rintro e w' ⟨rfl, rfl⟩)
    go_ret
    exact ⟨rfl, rfl⟩

theorem find_1 (p : Ent) (k : Key) (w : World) : Calls Try.prog 42 #[.agg #[keyV p.1, .int .i64 p.2], keyV k] w fun e w' => e = .returned (.int .i64 (cmpK p.1 k)) ∧ Below w.heap.size w w' := by
  go_enter Try.func42, Try.ntmps42
  go_wp2_with (go_at_call 43; refine (cmp_Compare _ _ _).mono ?_; rintro e w' ⟨rfl, rfl⟩)
  go_ret
  exact ⟨rfl, (Below.refl _ _).alloc (Nat.le_refl _) _⟩

set_option maxHeartbeats 2000000 in
set_option maxRecDepth 100000 in
theorem bsearch_none (k : Key) (a : Option Addr) (c : Nat) (w : World) :
    Calls Try.prog 41 #[.slice a 0 c, keyV k, .func (.func 42) #[] #[]] w fun e w' => e = .returned (.tuple #[.int .i64 0, .bool false]) ∧ Below w.heap.size w w' := by
  go_enter Try.func41, Try.ntmps41
  go_wp2
  go_loopg [9, 10] 0 (fun _ s7 s8 wr => s7 = .int .i64 0 ∧ s8 = .int .i64 0 ∧ wr = w)
  case atStart => exact ⟨rfl, rfl, rfl⟩
  case round =>
    obtain ⟨rfl, rfl, rfl⟩ := hrel
    go_wp2
    go_ret2
    exact ⟨rfl, Below.refl _ _⟩

theorem bsearch_end {E : List Ent} (k : Key) (i : Nat) (hi : i ≤ E.length) (h1 : ∀ t p, t < i → E[t]? = some p → bl p.1 k = true) (h2 : ∀ t p, i ≤ t → E[t]? = some p → bl p.1 k = false) : i = plc (ltE k) E :=
  plc_of _ E i hi (fun t p ht hp => h1 t p ht hp) (fun p hp => h2 i p (Nat.le_refl _) hp)
theorem kup_mono {E : List Ent} (h : KUp E) {k : Key} {s t : Nat} {p q : Ent} (hs : E[s]? = some p) (ht : E[t]? = some q) (hst : s ≤ t) (hq : bl q.1 k = true) : bl p.1 k = true := by
  by_cases e : s = t
  · subst e; rw [hs] at ht; cases ht; exact hq
  · obtain ⟨h1, rfl⟩ := List.getElem?_eq_some_iff.1 hs
    obtain ⟨h2, rfl⟩ := List.getElem?_eq_some_iff.1 ht
    exact bl_trans (List.pairwise_iff_getElem.1 h s t h1 h2 (by omega)) hq

set_option maxHeartbeats 4000000 in
set_option maxRecDepth 1000000 in
theorem bsearch_some (b off c : Nat) (E : List Ent) (k : Key) (w : World) (hbig : E.length ≤ 1000000) (hblt : b < w.heap.size) (hc : CellsAt w b off (E.flatMap encE)) (hu : KUp E) (fnd : Bool) (hf : fnd = true ↔ ∃ p, E[plc (ltE k) E]? = some p ∧ p.1 = k) :
    Calls Try.prog 41 #[.slice (some ⟨b, off, none⟩) E.length c, keyV k, .func (.func 42) #[] #[]] w fun e w' => e = .returned (.tuple #[.int .i64 (plc (ltE k) E : Nat), .bool fnd]) ∧ Below w.heap.size w w' := by
  obtain ⟨n, hn⟩ : ∃ n, E.length = n := ⟨_, rfl⟩
  have HN := Lib.hid hn
  have C : Hid (∀ i p, E[i]? = some p → w.cell? ⟨b, off + i * 2, none⟩ = some (keyV p.1) ∧ w.cell? ⟨b, off + i * 2 + 1, none⟩ = some (.int .i64 p.2)) := fun i p hp => by
    have := ents_at E i p hp
    exact ⟨hc _ _ this.1, by rw [Nat.add_assoc]; exact hc _ _ this.2⟩
  have U := Lib.hid hu
  have F := Lib.hid hf
  rw [hn] at hbig ⊢
  clear hc hu hn hf
  go_enter Try.func41, Try.ntmps41
  go_wp2
  go_loopg [9, 10] n (fun g s7 s8 wr => ∃ lo hi : Nat, s7 = .int .i64 lo ∧ s8 = .int .i64 hi ∧ lo ≤ hi ∧ hi ≤ n ∧ hi - lo ≤ g ∧ Below w.heap.size w wr ∧ Hid (∀ t p, t < lo → E[t]? = some p → bl p.1 k = true) ∧ Hid (∀ t p, hi ≤ t → E[t]? = some p → bl p.1 k = false))
  case atStart => exact ⟨0, n, rfl, rfl, Nat.zero_le _, Nat.le_refl _, by omega, Below.refl _ _, fun t p ht => absurd ht (Nat.not_lt_zero _), fun t p h1 h2 => by have := (List.getElem?_eq_some_iff.1 h2).1; rw [HN.out] at this; omega⟩
  case round =>
    obtain ⟨lo, hi, rfl, rfl, hlh, hin, hg, hB, I1, I2⟩ := hrel
    by_cases hlt : lo < hi
    · obtain ⟨p, hp⟩ : ∃ p, E[(lo + hi) / 2]? = some p := ⟨_, List.getElem?_eq_getElem (by rw [HN.out]; omega)⟩
      have PP := Lib.hid hp
      obtain ⟨c1, c2⟩ := C.out _ p hp
      have c1 := (hB.cell (p := ⟨b, off + (lo + hi) / 2 * 2, none⟩) hblt).trans c1
      have c2 := (hB.cell (p := ⟨b, off + (lo + hi) / 2 * 2 + 1, none⟩) hblt).trans c2
      clear hp
      cases hb : bl p.1 k
      · have hcmp : cmpK p.1 k = 0 ∨ cmpK p.1 k = 1 := by
          unfold cmpK
          rw [hb]
          by_cases e : p.1 = k
          · left; simp [e]
          · right; simp [e]
        have hge : ¬ cmpK p.1 k < 0 := by omega
        go_wp2_with fail
        refine (find_1 p k _).mono ?_
        rintro e w2 ⟨rfl, hB2⟩
        have B2 := Lib.hid (below_step hB hB2)
        go_wp2
        go_roundg ((lo + hi) / 2 - lo)
        case measure => omega
        case rel =>
          refine ⟨lo, (lo + hi) / 2, rfl, by rw [show ((lo : Int) + (hi : Int)) / 2 = (((lo + hi) / 2 : Nat) : Int) by omega], by omega, by omega, Nat.le_refl _, B2.out, I1.out, fun t q ht hq => ?_⟩
          cases hbq : bl q.1 k
          · rfl
          · have := kup_mono U.out PP.out hq ht hbq
            rw [hb] at this; cases this
      · have hcmp := cmpK_lt hb
        have hlt0 : cmpK p.1 k < 0 := by rw [hcmp]; decide
        clear hcmp
        go_wp2_with fail
        refine (find_1 p k _).mono ?_
        rintro e w2 ⟨rfl, hB2⟩
        have B2 := Lib.hid (below_step hB hB2)
        go_wp2
        go_roundg (hi - ((lo + hi) / 2 + 1))
        case measure => omega
        case rel =>
          refine ⟨(lo + hi) / 2 + 1, hi, by rw [show ((lo : Int) + (hi : Int)) / 2 + 1 = (((lo + hi) / 2 + 1 : Nat) : Int) by omega], rfl, by omega, hin, Nat.le_refl _, B2.out, fun t q ht hq => kup_mono U.out hq PP.out (by omega) hb, I2.out⟩
    · have : hi = lo := by omega
      subst this
      have E2 := Lib.hid (bsearch_end k hi (by rw [HN.out]; exact hin) I1.out I2.out)
      by_cases hnn : hi < n
      · obtain ⟨p, hp⟩ : ∃ p, E[hi]? = some p := ⟨_, List.getElem?_eq_getElem (by rw [HN.out]; omega)⟩
        have PP := Lib.hid hp
        obtain ⟨c1, c2⟩ := C.out _ p hp
        have c1 := (hB.cell (p := ⟨b, off + hi * 2, none⟩) hblt).trans c1
        have c2 := (hB.cell (p := ⟨b, off + hi * 2 + 1, none⟩) hblt).trans c2
        have hbf := I2.out hi p (Nat.le_refl _) hp
        clear hp
        by_cases hk : p.1 = k
        · have hc0 : cmpK p.1 k = 0 := by rw [hk]; exact cmpK_eq k
          have HC := Lib.hid hc0
          have HK := Lib.hid hk
          clear hc0 hk
          go_wp2_with fail
          refine (find_1 p k _).mono ?_
          rintro e w2 ⟨rfl, hB2⟩
          rw [HC.out]
          have B2 := Lib.hid (below_step hB hB2)
          go_wp2
          go_ret2
          refine ⟨?_, B2.out⟩
          have hft : fnd = true := F.out.2 ⟨p, by rw [← E2.out]; exact PP.out, HK.out⟩
          rw [hft, ← E2.out]; rfl
        · have hc0 : cmpK p.1 k = 1 := cmpK_gt hbf hk
          have HC := Lib.hid hc0
          clear hc0
          go_wp2_with fail
          refine (find_1 p k _).mono ?_
          rintro e w2 ⟨rfl, hB2⟩
          rw [HC.out]
          have B2 := Lib.hid (below_step hB hB2)
          go_wp2
          go_ret2
          refine ⟨?_, B2.out⟩
          have hft : fnd = false := by
            cases hfn : fnd
            · rfl
            · obtain ⟨q, hq, hqk⟩ := F.out.1 hfn
              rw [← E2.out, PP.out] at hq
              cases hq
              exact absurd hqk hk
          rw [hft, ← E2.out]; rfl
      · go_wp2
        go_ret2
        refine ⟨?_, hB⟩
        have hft : fnd = false := by
          cases hfn : fnd
          · rfl
          · obtain ⟨q, hq, _⟩ := F.out.1 hfn
            rw [← E2.out] at hq
            have := (List.getElem?_eq_some_iff.1 hq).1
            rw [HN.out] at this
            omega
        rw [hft, ← E2.out]; rfl

/-- slices.BinarySearchFunc, as find asks it. -/
theorem bsearch_ents (s : Value) (E : List Ent) (k : Key) (w : World) (hs : EntsIn w s E) (hu : KUp E) (hbig : E.length ≤ 1000000) (fnd : Bool) (hf : fnd = true ↔ ∃ p, E[plc (ltE k) E]? = some p ∧ p.1 = k) :
    Calls Try.prog 41 #[s, keyV k, .func (.func 42) #[] #[]] w fun e w' => e = .returned (.tuple #[.int .i64 (plc (ltE k) E : Nat), .bool fnd]) ∧ Below w.heap.size w w' := by
  rcases hs.2 with ⟨rfl, h0⟩ | ⟨b, off, cap, rfl, _, hb, hc⟩
  · obtain rfl : E = [] := List.eq_nil_of_length_eq_zero h0
    have hft : fnd = false := by
      cases hfn : fnd
      · rfl
      · obtain ⟨q, hq, _⟩ := hf.1 hfn; simp at hq
    subst hft
    exact (bsearch_none k none 0 w).mono fun e w' h => by simpa [plc] using h
  · exact bsearch_some b off cap E k w hbig hb hc hu fnd hf

/-- A map with texts as keys and numbers as values. -/
def MapIn (W : World) (v : Value) (E : List Ent) : Prop := (∃ s, v = .agg #[s] ∧ EntsIn W s E) ∧ KUp E
theorem MapIn.below {W W' : World} {v : Value} {E : List Ent} (h : MapIn W v E) (hb : Below W.heap.size W W') : MapIn W' v E := by
  obtain ⟨⟨s, hv, hs⟩, hu⟩ := h
  exact ⟨⟨s, hv, hs.below hb⟩, hu⟩
theorem MapIn.form {W : World} {v : Value} {E : List Ent} (h : MapIn W v E) : ∃ a n c, v = .agg #[.slice a n c] := by
  obtain ⟨⟨s, rfl, hs⟩, _⟩ := h
  rcases hs.2 with ⟨rfl, _⟩ | ⟨b, off, cap, rfl, _⟩
  · exact ⟨_, _, _, rfl⟩
  · exact ⟨_, _, _, rfl⟩

/-- Map.find. -/
theorem map_find (v : Value) (E : List Ent) (k : Key) (w : World) (h : MapIn w v E) (hbig : E.length ≤ 1000000) (fnd : Bool) (hf : fnd = true ↔ ∃ p, E[plc (ltE k) E]? = some p ∧ p.1 = k) :
    Calls Try.prog 31 #[v, keyV k] w fun e w' => e = .returned (.tuple #[.int .i64 (plc (ltE k) E : Nat), .bool fnd]) ∧ Below w.heap.size w w' := by
  obtain ⟨a, n, c, rfl⟩ := h.form
  obtain ⟨⟨s, hv, hs⟩, hu⟩ := h
  cases hv
  have hB : ∀ o, Below w.heap.size w (w.alloc o) := fun o => (Below.refl _ _).alloc (Nat.le_refl _) _
  go_enter Try.func31, Try.ntmps31
  go_wp2_with fail
  refine (bsearch_ents _ E k _ (hs.below (hB _)) hu hbig fnd hf).mono ?_
  rintro e w' ⟨rfl, hB2⟩
  have B2 := Lib.hid (below_step (hB _) hB2)
  go_wp2
  go_ret2
  exact ⟨rfl, B2.out⟩
theorem map_Len (v : Value) (E : List Ent) (w : World) (h : MapIn w v E) :
    Calls Try.prog 34 #[v] w fun e w' => e = .returned (.int .i64 (E.length : Int)) ∧ Below w.heap.size w w' := by
  obtain ⟨⟨s, rfl, hs⟩, hu⟩ := h
  rcases hs.2 with ⟨rfl, h0⟩ | ⟨b, off, cap, rfl, _, _, hc⟩
  · rw [h0]
    go_enter Try.func34, Try.ntmps34
    go_wp2
    go_ret
    exact ⟨rfl, (Below.refl _ _).alloc (Nat.le_refl _) _⟩
  · go_enter Try.func34, Try.ntmps34
    go_wp2
    go_ret
    exact ⟨rfl, (Below.refl _ _).alloc (Nat.le_refl _) _⟩

end Go.Proofs.Ytlfehhegkpoojaa
