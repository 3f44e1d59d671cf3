/- What the program's layer 3 (package set) comes to at maps: Put, Drop, Get. · What the program's layer 3 (package set) comes to at maps: Drop, Get, All. · bellmanref01.Ints: whether two slices hold the same numbers. · What the document's own answers of layer 3 on numbers (bellmanref03.With, Without; bellmanref01.Ints) come to. · The document's own answers of layer 3 on maps: Less, Get; what Put and Drop stand on. -/
import Derived.Test.YtabgedmocdjkcaaJoin4
import Derived.Test.YtabgedmocdjkcaaSet3
import Derived.RangeFuncNested
import Derived.RangeFuncBound
import Derived.RangeFuncCalls
import Derived.RangeFuncLeaves
import Derived.RangeFuncBox
import Derived.Shelf.Abstract
import Derived.Shelf.RegionOpen
import Derived.OwnWalkIn
import Derived.TacticsInMore
import Derived.LoopNIn
import Derived.LoopIn
import Derived.IntWalk
import Derived.Deep.Draws
import Derived.BigQuiet
import Derived.Test.YtabgedmocdjkcaaProg
import Derived.Test.YtabgedmocdjkcaaRepl3
import Derived.WalkKit
import Derived.Lib.Hide
import Derived.Maps.AppendAt
import Derived.Deep.AppendLies
import Derived.Lib.Walk
import Derived.Lib.Strings
import Derived.Lib.Slices
import Derived.Deep.RegionHeld3
namespace Go.Proofs.Ytabgedmocdjkcaa
open Go.RowKit Go.Shelf

theorem ent_one (E : List Ent) : ∀ v ∈ E.flatMap encE, v.oneCell' = true := fun v hv => by
  obtain ⟨p, _, hp⟩ := List.mem_flatMap.1 hv
  rcases List.mem_cons.1 hp with rfl | hp
  · rfl
  · rcases List.mem_cons.1 hp with rfl | hp
    · rfl
    · simp at hp
theorem put_ents (q : Ent) (E : List Ent) (n m : Nat) : (E.flatMap encE).take (n * 2) ++ (encE q ++ (E.flatMap encE).drop (m * 2)) = (E.take n ++ q :: E.drop m).flatMap encE := by
  rw [ents_take, ents_drop, List.flatMap_append, List.flatMap_cons]
theorem cut_ents (E : List Ent) (n m : Nat) : (E.flatMap encE).take (n * 2) ++ ([] ++ (E.flatMap encE).drop (m * 2)) = (E.take n ++ E.drop m).flatMap encE := by
  rw [ents_take, ents_drop, List.flatMap_append]; rfl
/-- Entries that lie in a block of their own, behind a store elsewhere. -/
theorem ents_made {W : World} {g : Nat} {M : List Ent} {N : Nat} (hN : N = M.length) (hg : g < W.heap.size) (hc : CellsAt W g 0 (M.flatMap encE)) (p : Addr) (u : Value) (hp : p.block ≠ g) : EntsIn (W.setCell p u) (.slice (some ⟨g, 0, none⟩) N N) M := by
  subst hN
  refine ⟨ents_len M, .inr ⟨g, 0, _, rfl, Nat.le_refl _, by simpa [World.setCell] using hg, fun j v hv => ?_⟩⟩
  have := hc j v hv
  rw [← this]
  exact World.cell?_of_block (w := W) (Below.heap_setCell _ _ _ _ (fun e => hp (Eq.symm e)))

end Go.Proofs.Ytabgedmocdjkcaa

namespace Go.Proofs.Ytabgedmocdjkcaa
open Go.RowKit Go.Shelf

/-- What Get tells. -/
def gotE (o : Option Int) : Value := .tuple #[.int .i64 (o.getD 0), .bool o.isSome]

abbrev encP (p : Ent) : Array Value := #[keyV p.1, .int .i64 p.2]
/-- A slice of entries that lies below n. -/
def LiesE (W : World) (n₀ : Nat) (v : Value) (E : List Ent) : Prop :=
  (v = .slice none 0 0 ∧ E = []) ∨ ∃ b off cap, v = .slice (some ⟨b, off, none⟩) E.length cap ∧ b < n₀ ∧ CellsAt W b off (E.flatMap encE)
theorem EntsIn.lies {W : World} {v : Value} {E : List Ent} (h : EntsIn W v E) : LiesE W W.heap.size v E := by
  rcases h.2 with ⟨hv, h0⟩ | ⟨b, off, cap, hv, _, hb, hc⟩
  · exact .inl ⟨hv, List.eq_nil_of_length_eq_zero h0⟩
  · exact .inr ⟨b, off, cap, hv, hb, hc⟩
theorem LiesE.below {W W' : World} {n₀ : Nat} {v : Value} {E : List Ent} (h : LiesE W n₀ v E) (hb : Below n₀ W W') : LiesE W' n₀ v E := by
  rcases h with h | ⟨b, off, cap, hv, hlt, hc⟩
  · exact .inl h
  · exact .inr ⟨b, off, cap, hv, hlt, hc.below hb hlt⟩
theorem LiesE.mono {W : World} {n₀ n₁ : Nat} {v : Value} {E : List Ent} (h : LiesE W n₀ v E) (hn : n₀ ≤ n₁) : LiesE W n₁ v E := by
  rcases h with h | ⟨b, off, cap, hv, hlt, hc⟩
  · exact .inl h
  · exact .inr ⟨b, off, cap, hv, by omega, hc⟩

end Go.Proofs.Ytabgedmocdjkcaa

namespace Go.Proofs.Ytabgedmocdjkcaa
open Go.RowKit

/-- bellmanref01.Ints: the same numbers? -/
theorem ref_Ints_d (u v : Value) (A B : List Int) (w : World) (hu : NumsIn w u A) (hv : NumsIn w v B) (hA : A.length ≤ 1000000) (hB : B.length ≤ 1000000) :
    Calls Try.prog 13 #[u, v] w fun e w' => e = .returned (.bool (decide (A = B))) ∧ ∃ m, w' = w.drewN m := by
  obtain ⟨a, c, rfl, h1⟩ := hu.form
  obtain ⟨a', c', rfl, h2⟩ := hv.form
  have HC := Lib.hid h1
  have HC' := Lib.hid h2
  clear h1 h2 hu hv
  by_cases hlm : A.length = B.length
  · have HLM := Lib.hid hlm
    rw [hlm]
    clear hlm
    go_enter Try.func13, Try.ntmps13
    go_wp2
    go_loopw [5] (fun i wr => ∃ (k n : Nat), k ≤ B.length ∧ i = .int .i64 k ∧ wr = w.drewN n ∧ Hid (A.take k = B.take k)) (fun i _ => B.length - (intOf i).toNat)
    case atStart => exact ⟨0, 0, Nat.zero_le _, rfl, rfl, rfl⟩
    case round =>
      obtain ⟨k, n, hk, rfl, rfl, H⟩ := hrel
      by_cases hlt : k < B.length
      · have hlt' : k < A.length := by rw [HLM.out]; exact hlt
        obtain ⟨b, off, rfl, _, hx⟩ := HC.out k hlt'
        obtain ⟨b', off', rfl, _, hy⟩ := HC'.out k hlt
        have hx' := getD_at hlt'
        have hy' := getD_at hlt
        generalize A.getD k 0 = x at hx hx'
        generalize B.getD k 0 = y at hy hy'
        have X := Lib.hid hx'
        have Y := Lib.hid hy'
        clear hx' hy'
        go_wp2
        go_region
        go_wp2
        · go_ret
          rename_i hne
          refine ⟨?_, n + 1, rfl⟩
          have : decide (A = B) = false := by
            rw [decide_eq_false_iff_not]; rintro rfl
            have : x = y := X.out.trans Y.out.symm
            simp [this] at hne
          rw [this]; rfl
        · rename_i heq
          go_roundw
          case rel =>
            refine ⟨k + 1, n + 1, by omega, by go_num, rfl, ?_⟩
            have e : A[k] = B[k] := by rw [← X.out, ← Y.out]; simpa using heq
            show A.take (k + 1) = B.take (k + 1)
            rw [List.take_succ_eq_append_getElem hlt', List.take_succ_eq_append_getElem hlt, H.out, e]
          case measure => simp [intOf]; omega
      · go_wp2
        go_ret
        refine ⟨?_, n, rfl⟩
        have : A = B := by
          have := H.out
          rwa [List.take_of_length_le (by rw [HLM.out]; omega), List.take_of_length_le (by omega)] at this
        rw [this]; simp
  · have H := Lib.hid (show decide (A = B) = false by rw [decide_eq_false_iff_not]; rintro rfl; exact hlm rfl)
    have h1 : ((A.length : Int) != (B.length : Int)) = true := by simp; omega
    clear hlm
    go_enter Try.func13, Try.ntmps13
    go_wp2
    go_ret
    exact ⟨by rw [H.out]; rfl, 0, rfl⟩
theorem ref_Ints (u v : Value) (A B : List Int) (w : World) (hu : NumsIn w u A) (hv : NumsIn w v B) (hA : A.length ≤ 1000000) (hB : B.length ≤ 1000000) :
    Calls Try.prog 13 #[u, v] w fun e w' => e = .returned (.bool (decide (A = B))) ∧ Below w.heap.size w w' :=
  (ref_Ints_d u v A B w hu hv hA hB).mono fun _ _ ⟨h1, m, h2⟩ => ⟨h1, by subst h2; exact below_draws (Below.refl _ w) m⟩

end Go.Proofs.Ytabgedmocdjkcaa

namespace Go.Proofs.Ytabgedmocdjkcaa
open Go.RowKit

/-- A slice that lies in a block made since. -/
def FreshV (n : Nat) (r : Value) : Prop := ∀ g off m c, r = .slice (some ⟨g, off, none⟩) m c → n ≤ g
theorem own_fresh {W : World} {B k n : Nat} {e : TypeId} {v : Value} {xs : List Value} (h : W.ownsRow B e k v n xs) : FreshV B v := fun g off m c he => by
  rcases h.2 with ⟨rfl, _⟩ | ⟨g', cap, cur, rfl, hB, _⟩
  · cases he
  · cases he; exact hB
theorem FreshV.mono {n m : Nat} {r : Value} (h : FreshV n r) (hm : m ≤ n) : FreshV m r := fun g off k c he => Nat.le_trans hm (h g off k c he)
/-- A slice of numbers in a block made since. -/
def NumsFr (n : Nat) (W : World) (r : Value) (L : List Int) : Prop := NumsIn W r L ∧ FreshV n r

/-- What is left of With, before and behind x. -/
def restZ (x : Int) (dn : Bool) (R : List Int) : List Int := if dn then woZ x R else withZ x R

end Go.Proofs.Ytabgedmocdjkcaa

namespace Go.Proofs.Ytabgedmocdjkcaa
open Go.RowKit Go.Shelf

theorem bl_at (s t : ByteArray) (k : Nat) (h1 : k < s.size) (h2 : k < t.size) :
    bl (s.data.toList.drop k) (t.data.toList.drop k) = (decide ((s[k].toNat : Int) < (t[k].toNat : Int)) || (!((s[k].toNat : Int) != (t[k].toNat : Int)) && bl (s.data.toList.drop (k + 1)) (t.data.toList.drop (k + 1)))) := by
  have e1 : s.data.toList.drop k = s[k] :: s.data.toList.drop (k + 1) := List.drop_eq_getElem_cons (by simpa using h1)
  have e2 : t.data.toList.drop k = t[k] :: t.data.toList.drop (k + 1) := List.drop_eq_getElem_cons (by simpa using h2)
  rw [e1, e2]
  show (decide (s[k] < t[k]) || (s[k] == t[k] && _)) = _
  congr 1
  · rw [decide_eq_decide, UInt8.lt_iff_toNat_lt]; omega
  · congr 1
    have : (s[k] == t[k]) = decide (s[k].toNat = t[k].toNat) := by
      rw [Bool.eq_iff_iff]; simp [UInt8.toNat_inj]
    rw [this]
    by_cases h : s[k].toNat = t[k].toNat
    · simp [h]
    · have h' : ¬ (s[k].toNat : Int) = (t[k].toNat : Int) := by omega
      simp [h, h']
theorem bl_end (s t : ByteArray) (k : Nat) (hk : k ≤ s.size) (hk2 : k ≤ t.size) (h : ¬ (k < s.size ∧ k < t.size)) : bl (s.data.toList.drop k) (t.data.toList.drop k) = decide (s.size < t.size) := by
  have hs := Lib.size_eq s
  have ht := Lib.size_eq t
  by_cases h1 : k < t.size
  · have e1 : s.data.toList.drop k = [] := List.drop_eq_nil_of_le (by rw [← hs]; omega)
    obtain ⟨y, r, e2⟩ : ∃ y r, t.data.toList.drop k = y :: r := by
      cases he : t.data.toList.drop k with
      | nil => have := congrArg List.length he; rw [List.length_drop, ← ht] at this; simp at this; omega
      | cons y r => exact ⟨y, r, rfl⟩
    rw [e1, e2, decide_eq_true (by omega)]; rfl
  · have e2 : t.data.toList.drop k = [] := List.drop_eq_nil_of_le (by rw [← ht]; omega)
    rw [e2, decide_eq_false (by omega)]
    cases s.data.toList.drop k <;> rfl

set_option maxHeartbeats 2000000 in
theorem ref_Less0 (s t : ByteArray) (w : World) (hs : s.size ≤ 1000000) :
    Calls Try.prog 28 #[.string s, .string t] w fun e w' => e = .returned (.bool (bl s.data.toList t.data.toList)) ∧ ∃ n, w' = w.drewN n := by
  go_enter Try.func28, Try.ntmps28
  go_wp2
  go_loopw [5] (fun i wr => ∃ (k n : Nat), k ≤ s.size ∧ k ≤ t.size ∧ i = .int .i64 k ∧ wr = w.drewN n ∧ Hid (bl s.data.toList t.data.toList = bl (s.data.toList.drop k) (t.data.toList.drop k))) (fun i _ => s.size - (intOf i).toNat)
  case atStart => exact ⟨0, 0, Nat.zero_le _, Nat.zero_le _, rfl, rfl, rfl⟩
  case round =>
    obtain ⟨k, n, hk, hk2, rfl, rfl, H⟩ := hrel
    by_cases h1 : k < s.size
    · by_cases h2 : k < t.size
      · have HB := Lib.hid (bl_at s t k h1 h2)
        by_cases hne : ((s[k].toNat : Int) != (t[k].toNat : Int)) = true
        · go_wp2
          go_region
          go_wp2
          go_region
          go_wp2
          go_ret
          refine ⟨?_, n + 1 + 1, rfl⟩
          rw [H.out, HB.out, hne]; simp
        · have hne' : ((s[k].toNat : Int) != (t[k].toNat : Int)) = false := by simpa using hne
          go_wp2
          go_region
          go_wp2
          go_roundw
          case rel =>
            refine ⟨k + 1, n + 1, by omega, by omega, by go_num, rfl, ?_⟩
            have hl : decide ((s[k].toNat : Int) < (t[k].toNat : Int)) = false := by
              rw [decide_eq_false_iff_not]; simp at hne'; omega
            show _ = _
            rw [H.out, HB.out, hne', hl]; rfl
          case measure => simp [intOf]; omega
      · have HE := Lib.hid (bl_end s t k hk hk2 (by omega))
        go_wp2
        go_ret
        exact ⟨by rw [H.out, HE.out]; rfl, n, rfl⟩
    · have HE := Lib.hid (bl_end s t k hk hk2 (by omega))
      go_wp2
      go_ret
      exact ⟨by rw [H.out, HE.out]; rfl, n, rfl⟩
theorem ref_Less (a b : Key) (w : World) (ha : a.length ≤ 1000000) :
    Calls Try.prog 28 #[keyV a, keyV b] w fun e w' => e = .returned (.bool (bl a b)) ∧ Below w.heap.size w w' :=
  (ref_Less0 ⟨a.toArray⟩ ⟨b.toArray⟩ w (by show a.toArray.size ≤ _; simpa using ha)).mono fun e w' h => by
    obtain ⟨he, n, rfl⟩ := h
    exact ⟨he, below_draws (Below.refl _ _) n⟩

/-- The document's own map: keys and values in two lists. -/
def RefIn (W : World) (v : Value) (E : List Ent) : Prop := ∃ ka kc va vc, v = .agg #[.slice ka E.length kc, .slice va E.length vc] ∧ SliceK W 1 (.slice ka E.length kc) E.length (E.map fun p => keyV p.1) ∧ SliceK W 1 (.slice va E.length vc) E.length (E.map fun p => numV p.2)
theorem RefIn.below {W W' : World} {v : Value} {E : List Ent} (h : RefIn W v E) (hb : Below W.heap.size W W') : RefIn W' v E := by
  obtain ⟨ka, kc, va, vc, hv, h1, h2⟩ := h
  exact ⟨ka, kc, va, vc, hv, h1.below hb, h2.below hb⟩
theorem slice_at {α : Type} {f : α → Value} {W : World} {a : Option Addr} {n c : Nat} {L : List α} (h : SliceK W 1 (.slice a n c) L.length (L.map f)) (k : Nat) (x : α) (hx : L[k]? = some x) : ∃ b off, a = some ⟨b, off, none⟩ ∧ b < W.heap.size ∧ W.cell? ⟨b, off + k, none⟩ = some (f x) := by
  have hk := (List.getElem?_eq_some_iff.1 hx).1
  rcases h.2 with ⟨_, h0⟩ | ⟨b, off, cap, hv, _, hb, hc⟩
  · omega
  · cases hv
    exact ⟨b, off, rfl, hb, hc k _ (by rw [List.getElem?_map, hx]; rfl)⟩

end Go.Proofs.Ytabgedmocdjkcaa
