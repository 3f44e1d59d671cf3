/- The document's own answers of layer 3 on maps: Less, Get; what Put and Drop stand on. -/
import Derived.Test.YtmfejpbijllojaaGreatProg
import Derived.Test.YtmfejpbijllojaaGreatFind3
import Derived.Test.YtmfejpbijllojaaGreatMap3B
import Derived.Test.YtmfejpbijllojaaGreatRepl3
import Derived.Test.YtmfejpbijllojaaGreatRef3
import Derived.Lib.Walk
import Derived.Lib.Strings
import Derived.Lib.Slices
import Derived.Maps.AppendAt
import Derived.Deep.Draws
import Derived.Deep.AppendLies
import Derived.Deep.RegionHeld3
namespace Go.Proofs.YtmfejpbijllojaaGreat
open Go.RowKit Go.Shelf

theorem bl_at (s t : ByteArray) (k : Nat) (h1 : k < s.size) (h2 : k < t.size) :
    bl (s.data.toList.drop k) (t.data.toList.drop k) = (decide ((s[k].toNat : Int) < (t[k].toNat : Int)) || (!((s[k].toNat : Int) != (t[k].toNat : Int)) && bl (s.data.toList.drop (k + 1)) (t.data.toList.drop (k + 1)))) := by
  have e1 : s.data.toList.drop k = s[k] :: s.data.toList.drop (k + 1) := List.drop_eq_getElem_cons (by simpa using h1)
  have e2 : t.data.toList.drop k = t[k] :: t.data.toList.drop (k + 1) := List.drop_eq_getElem_cons (by simpa using h2)
  rw [e1, e2]
  show (decide (s[k] < t[k]) || (s[k] == t[k] && _)) = _
  congr 1
  · rw [decide_eq_decide, UInt8.lt_iff_toNat_lt]; omega
  · congr 1
    have : (s[k] == t[k]) = decide (s[k].toNat = t[k].toNat) := by
      rw [Bool.eq_iff_iff]; simp [UInt8.toNat_inj]
    rw [this]
    by_cases h : s[k].toNat = t[k].toNat
    · simp [h]
    · have h' : ¬ (s[k].toNat : Int) = (t[k].toNat : Int) := by omega
      simp [h, h']
theorem bl_end (s t : ByteArray) (k : Nat) (hk : k ≤ s.size) (hk2 : k ≤ t.size) (h : ¬ (k < s.size ∧ k < t.size)) : bl (s.data.toList.drop k) (t.data.toList.drop k) = decide (s.size < t.size) := by
  have hs := Lib.size_eq s
  have ht := Lib.size_eq t
  by_cases h1 : k < t.size
  · have e1 : s.data.toList.drop k = [] := List.drop_eq_nil_of_le (by rw [← hs]; omega)
    obtain ⟨y, r, e2⟩ : ∃ y r, t.data.toList.drop k = y :: r := by
      cases he : t.data.toList.drop k with
      | nil => have := congrArg List.length he; rw [List.length_drop, ← ht] at this; simp at this; omega
      | cons y r => exact ⟨y, r, rfl⟩
    rw [e1, e2, decide_eq_true (by omega)]; rfl
  · have e2 : t.data.toList.drop k = [] := List.drop_eq_nil_of_le (by rw [← ht]; omega)
    rw [e2, decide_eq_false (by omega)]
    cases s.data.toList.drop k <;> rfl

set_option maxHeartbeats 2000000 in
theorem ref_Less0 (s t : ByteArray) (w : World) (hs : s.size ≤ 1000000) :
    Calls Tryz.prog 54 #[.string s, .string t] w fun e w' => e = .returned (.bool (bl s.data.toList t.data.toList)) ∧ ∃ n, w' = w.drewN n := by
  go_enter Tryz.func54, Tryz.ntmps54
  go_wp2
  go_loopw [5] (fun i wr => ∃ (k n : Nat), k ≤ s.size ∧ k ≤ t.size ∧ i = .int .i64 k ∧ wr = w.drewN n ∧ Hid (bl s.data.toList t.data.toList = bl (s.data.toList.drop k) (t.data.toList.drop k))) (fun i _ => s.size - (intOf i).toNat)
  case atStart => exact ⟨0, 0, Nat.zero_le _, Nat.zero_le _, rfl, rfl, rfl⟩
  case round =>
    obtain ⟨k, n, hk, hk2, rfl, rfl, H⟩ := hrel
    by_cases h1 : k < s.size
    · by_cases h2 : k < t.size
      · have HB := Lib.hid (bl_at s t k h1 h2)
        by_cases hne : ((s[k].toNat : Int) != (t[k].toNat : Int)) = true
        · go_wp2
          go_region
          go_wp2
          go_region
          go_wp2
          go_ret
          refine ⟨?_, n + 1 + 1, rfl⟩
          rw [H.out, HB.out, hne]; simp
        · have hne' : ((s[k].toNat : Int) != (t[k].toNat : Int)) = false := by simpa using hne
          go_wp2
          go_region
          go_wp2
          go_roundw
          case rel =>
            refine ⟨k + 1, n + 1, by omega, by omega, by go_num, rfl, ?_⟩
            have hl : decide ((s[k].toNat : Int) < (t[k].toNat : Int)) = false := by
              rw [decide_eq_false_iff_not]; simp at hne'; omega
            show _ = _
            rw [H.out, HB.out, hne', hl]; rfl
          case measure => simp [intOf]; omega
      · have HE := Lib.hid (bl_end s t k hk hk2 (by omega))
        go_wp2
        go_ret
        exact ⟨by rw [H.out, HE.out]; rfl, n, rfl⟩
    · have HE := Lib.hid (bl_end s t k hk hk2 (by omega))
      go_wp2
      go_ret
      exact ⟨by rw [H.out, HE.out]; rfl, n, rfl⟩
theorem ref_Less (a b : Key) (w : World) (ha : a.length ≤ 1000000) :
    Calls Tryz.prog 54 #[keyV a, keyV b] w fun e w' => e = .returned (.bool (bl a b)) ∧ Below w.heap.size w w' :=
  (ref_Less0 ⟨a.toArray⟩ ⟨b.toArray⟩ w (by show a.toArray.size ≤ _; simpa using ha)).mono fun e w' h => by
    obtain ⟨he, n, rfl⟩ := h
    exact ⟨he, below_draws (Below.refl _ _) n⟩

/-- The document's own map: keys and values in two lists. -/
def RefIn (W : World) (v : Value) (E : List Ent) : Prop := ∃ ka kc va vc, v = .agg #[.slice ka E.length kc, .slice va E.length vc] ∧ SliceK W 1 (.slice ka E.length kc) E.length (E.map fun p => keyV p.1) ∧ SliceK W 1 (.slice va E.length vc) E.length (E.map fun p => numV p.2)
theorem RefIn.below {W W' : World} {v : Value} {E : List Ent} (h : RefIn W v E) (hb : Below W.heap.size W W') : RefIn W' v E := by
  obtain ⟨ka, kc, va, vc, hv, h1, h2⟩ := h
  exact ⟨ka, kc, va, vc, hv, h1.below hb, h2.below hb⟩
theorem slice_at {α : Type} {f : α → Value} {W : World} {a : Option Addr} {n c : Nat} {L : List α} (h : SliceK W 1 (.slice a n c) L.length (L.map f)) (k : Nat) (x : α) (hx : L[k]? = some x) : ∃ b off, a = some ⟨b, off, none⟩ ∧ b < W.heap.size ∧ W.cell? ⟨b, off + k, none⟩ = some (f x) := by
  have hk := (List.getElem?_eq_some_iff.1 hx).1
  rcases h.2 with ⟨_, h0⟩ | ⟨b, off, cap, hv, _, hb, hc⟩
  · omega
  · cases hv
    exact ⟨b, off, rfl, hb, hc k _ (by rw [List.getElem?_map, hx]; rfl)⟩

end Go.Proofs.YtmfejpbijllojaaGreat
