/- What the program's layer 2 (package match) comes to: contracts over the program's text. No conditions. -/
import Derived.Test.YtmfejpbijllojaaGreatTopic1
import Derived.Test.YtmfejpbijllojaaGreatBase
import Derived.Test.YtmfejpbijllojaaGreatBytes2
import Derived.Test.YtmfejpbijllojaaGreatRange
namespace Go.Proofs.YtmfejpbijllojaaGreat
open Go.RowKit Go.Shelf

attribute [local go_sem] Oper.semAt_some

/-- strings.HasPrefix of one byte. -/
theorem sl_HasPrefix (s : ByteArray) (c : UInt8) (w : World) :
    Calls Tryz.prog 78 #[.string s, .string ⟨#[c]⟩] w fun e w' => e = .returned (.bool (s.data.toList.head? == some c)) ∧ w = w' := by
  by_cases h : 1 ≤ s.size
  · have H := Lib.hid (show ((s.extract 0 1).toList == [c]) = (s.data.toList.head? == some c) by
      rw [Lib.toList_data, Lib.extract_eq]
      have hl := Lib.size_eq s
      cases e : s.data.toList with
      | nil => rw [e] at hl; have hl0 : s.size = 0 := hl; omega
      | cons b l => simp)
    go_enter Tryz.func78, Tryz.ntmps78
    go_wp2
    go_ret
    exact ⟨by rw [← H.out]; rfl, rfl⟩
  · have H := Lib.hid (show (s.data.toList.head? == some c) = false by
      have hl := Lib.size_eq s
      cases e : s.data.toList with
      | nil => rfl
      | cons b l => rw [e] at hl; simp at hl; omega)
    go_enter Tryz.func78, Tryz.ntmps78
    go_wp2
    go_ret
    exact ⟨by rw [H.out]; rfl, rfl⟩
theorem strings_HasPrefix (s : ByteArray) (c : UInt8) (w : World) :
    Calls Tryz.prog 62 #[.string s, .string ⟨#[c]⟩] w fun e w' => e = .returned (.bool (s.data.toList.head? == some c)) ∧ w = w' := by
  go_enter Tryz.func62, Tryz.ntmps62
  go_wp2_with (go_at_call 78; refine (sl_HasPrefix _ _ _).mono ?_; rintro e w' ⟨rfl, rfl⟩)
  go_ret
  exact ⟨rfl, rfl⟩

/-- What is left of a row of texts behind the first k. -/
def leftOf (g N k : Nat) (v : Value) : Prop := ∃ p c, v = .slice (some p) (N - k) c ∧ N - k ≤ c ∧ (k < N → p = ⟨g, k, none⟩) ∧ k ≤ N

/-- How the levels that came are like the first ones of the others, so that what follows decides. -/
def soFar (pre : List (Nat × List UInt8)) (G : List (List UInt8)) : Prop := ∀ r, coversL (pre.map (·.2) ++ r) G = coversL r (G.drop pre.length)
def decided (pre : List (Nat × List UInt8)) (G : List (List UInt8)) (b : Bool) : Prop := ∀ r, coversL (pre.map (·.2) ++ r) G = b
theorem soFar_nil (G : List (List UInt8)) : soFar [] G := fun r => by simp
theorem soFar_step {pre : List (Nat × List UInt8)} {G : List (List UInt8)} {x : Nat × List UInt8} {y : List UInt8} (h : soFar pre G) (hx : x.2 ≠ [35]) (hy : G[pre.length]? = some y) (ha : alikeZ x.2 y = true) : soFar (pre ++ [x]) G := fun r => by
  obtain ⟨h2, e2⟩ := List.getElem?_eq_some_iff.1 hy
  rw [List.map_append, List.append_assoc, h, List.length_append, List.drop_eq_getElem_cons h2, e2]
  show coversL (x.2 :: r) _ = _
  rw [coversL_cons hx, ha, Bool.true_and]; rfl
theorem decided_hash {pre : List (Nat × List UInt8)} {G : List (List UInt8)} {x : Nat × List UInt8} (h : soFar pre G) (hx : x.2 = [35]) : decided (pre ++ [x]) G true := fun r => by
  rw [List.map_append, List.append_assoc, h]
  show coversL (x.2 :: r) _ = _
  rw [hx, coversL_hash]
theorem decided_short {pre : List (Nat × List UInt8)} {G : List (List UInt8)} {x : Nat × List UInt8} (h : soFar pre G) (hx : x.2 ≠ [35]) (hl : G.length ≤ pre.length) : decided (pre ++ [x]) G false := fun r => by
  rw [List.map_append, List.append_assoc, h, List.drop_eq_nil_of_le hl]
  show coversL (x.2 :: r) _ = _
  rw [coversL_none hx]
theorem decided_unlike {pre : List (Nat × List UInt8)} {G : List (List UInt8)} {x : Nat × List UInt8} {y : List UInt8} (h : soFar pre G) (hx : x.2 ≠ [35]) (hy : G[pre.length]? = some y) (ha : alikeZ x.2 y = false) : decided (pre ++ [x]) G false := fun r => by
  obtain ⟨h2, e2⟩ := List.getElem?_eq_some_iff.1 hy
  rw [List.map_append, List.append_assoc, h, List.drop_eq_getElem_cons h2, e2]
  show coversL (x.2 :: r) _ = _
  rw [coversL_cons hx, ha, Bool.false_and]
theorem enum_map : ∀ (k : Nat) (L : List (List UInt8)), (enum k L).map (·.2) = L
  | _, [] => rfl
  | k, x :: r => by rw [enum, List.map_cons, enum_map (k + 1) r]
theorem soFar_all {F G : List (List UInt8)} (h : soFar (enum 0 F) G) : coversL F G = (G.drop F.length).isEmpty := by
  have := h []
  rwa [List.append_nil, enum_map, enum_length, coversL_nil] at this
theorem decided_prefix {F G : List (List UInt8)} {pre : List (Nat × List UInt8)} {b : Bool} (h : decided pre G b) (hp : pre <+: enum 0 F) : coversL F G = b := by
  obtain ⟨t, ht⟩ := hp
  have := h (t.map (·.2))
  rwa [← List.map_append, ht, enum_map] at this

theorem topic_Levels_cap (s : ByteArray) (w : World) (hs : s.size ≤ 1048576) :
    Calls Tryz.prog 22 #[.string s] w fun e w' => ∃ g cap, e = .returned (.slice (some ⟨g, 0, none⟩) (lv s.data.toList).length cap) ∧ w.heap.size ≤ g ∧ g < w'.heap.size ∧ (lv s.data.toList).length ≤ cap ∧
      (∀ (i : Nat) x, (lv s.data.toList)[i]? = some x → w'.cell? ⟨g, i, none⟩ = some (.string ⟨x.toArray⟩)) ∧ Below w.heap.size w w' := by
  refine (topic_Levels s w hs).mono ?_
  rintro e w1 ⟨v, rfl, hrow, hB⟩
  obtain ⟨g, cap, rfl, hg1, hg2, hc⟩ := RowOf.of_own hrow (lv_ne _)
  refine ⟨g, cap, rfl, hg1, hg2, ?_, hc, hB⟩
  rcases hrow.2 with ⟨h, _⟩ | ⟨g', cap', cur, h, _, _, hh⟩
  · cases h
  · cases h; exact hh.1

theorem size_of_bytes {s : ByteArray} (h : bytesOk s.data.toList = true) : 1 ≤ s.size ∧ s.size ≤ 32 := by
  have := bytesOk_len h; rwa [← Lib.size_eq] at this

/-- A slice, of an argument or not, has just these texts. -/
def TextsIn (W : World) (a : Option Addr) (L : List (List UInt8)) : Prop := ∀ (i : Nat) x, L[i]? = some x → ∃ b off, a = some ⟨b, off, none⟩ ∧ b < W.heap.size ∧ W.cell? ⟨b, off + i, none⟩ = some (strV x)
theorem TextsIn.below {W W' : World} {a : Option Addr} {L : List (List UInt8)} (h : TextsIn W a L) (hb : Below W.heap.size W W') : TextsIn W' a L := fun i x hx => by
  obtain ⟨b, off, ha, hlt, hc⟩ := h i x hx
  exact ⟨b, off, ha, Nat.lt_of_lt_of_le hlt hb.size, (hb.cell (p := ⟨b, off + i, none⟩) hlt).trans hc⟩

theorem any_take_step {α : Type} (p : α → Bool) (L : List α) (k : Nat) (x : α) (hx : L[k]? = some x) (h0 : (L.take k).any p = false) (h1 : p x = false) : (L.take (k + 1)).any p = false := by
  obtain ⟨hk, e⟩ := List.getElem?_eq_some_iff.1 hx
  rw [List.take_succ_eq_append_getElem hk, List.any_append, h0, e]; simp [h1]
theorem any_at {α : Type} (p : α → Bool) (L : List α) (k : Nat) (x : α) (hx : L[k]? = some x) (h1 : p x = true) : L.any p = true :=
  List.any_eq_true.2 ⟨x, List.mem_of_getElem? hx, h1⟩

end Go.Proofs.YtmfejpbijllojaaGreat
