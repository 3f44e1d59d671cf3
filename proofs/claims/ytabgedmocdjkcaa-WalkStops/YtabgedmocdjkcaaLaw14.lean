/- Layer 14, the law: what is needed on both its statements: the node and its answer; the same texts; great; awake. -/
import Derived.Test.YtabgedmocdjkcaaRefPairs14
import Derived.Test.YtabgedmocdjkcaaPairsL14
import Derived.Test.YtabgedmocdjkcaaJoin45
import Derived.Test.YtabgedmocdjkcaaJoin7
import Derived.Deep.CutRange
namespace Go.Proofs.Ytabgedmocdjkcaa
open Go.RowKit Go.Shelf

/-- A node that has these pairs may be gone through. -/
theorem tells_of {P : List Pr} {o : Nd} {W : World} (h : WTr o P) (hn : NodeIs (fun _ => False) W o) (hP : P.length ≤ 200) (hl : ∀ x ∈ P, x.1.length ≤ 100) : Tells W.heap.size 20400 o W := by
  have h1 := h.size
  have h2 := ndN_F o
  have h3 := prs_ref h
  have h4 := refZ_len P
  refine ⟨hn.turn (Only.refl (fun _ => False) _) (fun _ h => h.elim) (fun k hk h => by omega), Nat.le_refl _, h.cln, by omega, by omega, by rw [h3]; omega, fun x hx => ?_⟩
  have := hl x ((prs_mem h x).1 hx).1
  omega
theorem refZ_texts {P : List Pr} (hl : ∀ x ∈ P, x.1.length ≤ 100) : ∀ x ∈ refZ P, x.1.length ≤ 100 := fun x hx => hl x (((refZ_ok P).2 x).1 hx).1

set_option maxRecDepth 100000 in
theorem texts_len (a b : Option Addr) (n m ca cb : Nat) (w : World) (hn : n ≠ m) :
    Calls Try.prog 12 #[.slice a n ca, .slice b m cb] w fun e w' => e = .returned (.bool false) ∧ w = w' := by
  have h1 : ((n : Int) != (m : Int)) = true := by simp; omega
  go_enter Try.func12, Try.ntmps12
  go_wp2
  go_ret
  exact ⟨rfl, rfl⟩
set_option maxRecDepth 100000 in
theorem texts_none (a b : Option Addr) (ca cb : Nat) (w : World) :
    Calls Try.prog 12 #[.slice a 0 ca, .slice b 0 cb] w fun e w' => e = .returned (.bool true) ∧ w = w' := by
  go_enter Try.func12, Try.ntmps12
  go_wp2
  go_loopw [5] (fun i wr => i = .int .i64 0 ∧ wr = w) (fun _ _ => 0)
  case atStart => exact ⟨rfl, rfl⟩
  case round =>
    obtain ⟨rfl, rfl⟩ := hrel
    go_wp2
    go_ret
    exact ⟨rfl, rfl⟩
/-- The same texts? Of rows of one's own. -/
theorem ref_TextsO {base base' : Nat} {v u : Value} {L M : List Key} {w : World} (hv : w.ownsRow base 9 1 v L.length (L.map keyV)) (hu : w.ownsRow base' 9 1 u M.length (M.map keyV)) (hL : L.length ≤ 1000000) (hM : M.length ≤ 1000000) :
    Calls Try.prog 12 #[v, u] w fun e w' => e = .returned (.bool (L == M)) ∧ Below w.heap.size w w' := by
  by_cases hlm : L.length = M.length
  · by_cases h0 : L.length = 0
    · obtain rfl : L = [] := List.eq_nil_of_length_eq_zero h0
      obtain rfl : M = [] := List.eq_nil_of_length_eq_zero (by simpa using hlm.symm)
      obtain ⟨a, c, rfl⟩ := own_form hv
      obtain ⟨b, d, rfl⟩ := own_form hu
      refine (texts_none a b c d w).mono ?_
      rintro e w' ⟨rfl, rfl⟩
      exact ⟨rfl, Below.refl _ _⟩
    · obtain ⟨g, c, rfl, _, _, _, hc⟩ := own_cellN (by omega) hv
      obtain ⟨g', c', rfl, _, _, _, hc'⟩ := own_cellN (by omega) hu
      refine (ref_Texts L M g g' c c' w (by omega) (by omega) (fun i x hx => hc i _ (by rw [List.getElem?_map, hx]; rfl)) (fun i x hx => hc' i _ (by rw [List.getElem?_map, hx]; rfl))).mono ?_
      rintro e w' ⟨rfl, n, rfl⟩
      exact ⟨rfl, below_draws (Below.refl _ _) n⟩
  · obtain ⟨a, c, rfl⟩ := own_form hv
    obtain ⟨b, d, rfl⟩ := own_form hu
    refine (texts_len a b _ _ c d w hlm).mono ?_
    rintro e w' ⟨rfl, rfl⟩
    refine ⟨?_, Below.refl _ _⟩
    rw [show (L == M) = false by rw [beq_eq_false_iff_ne]; rintro rfl; exact hlm rfl]
/-- A row of one's own that is argument. -/
theorem own_numsIn {w : World} {base : Nat} {u : Value} {L : List Int} (h : w.ownsRow base 3 1 u L.length (L.map numV)) : NumsIn w u L := SliceK.of_own h
/-- A block made of these texts, as a row. -/
theorem lit_row {e : TypeId} {w : World} {g : Nat} {l : List Value} {base : Nat} (h : Blk e w g l) (hb : base ≤ g) (hl : l.length ≤ 1000000) : w.ownsRow base e 1 (.slice (some ⟨g, 0, none⟩) l.length l.length) l.length l :=
  ⟨by omega, .inr ⟨g, l.length, l.toArray, rfl, hb, h, Nat.le_refl _, by simp only [maxLen]; omega, by simp, by simp⟩⟩

/-- Is there more than is looked at? -/
def greatZ (T : List Key) : Bool := T.any (fun x => decide (100 < x.length)) || decide (100 < T.length)
theorem great_no {T : List Key} (h : greatZ T = false) : T.length ≤ 100 ∧ ∀ x ∈ T, x.length ≤ 100 := by
  unfold greatZ at h
  rw [Bool.or_eq_false_iff] at h
  refine ⟨by have := of_decide_eq_false h.2; omega, fun x hx => ?_⟩
  have h1 := List.any_eq_false.1 h.1 x hx
  simpa using h1
set_option maxRecDepth 100000 in
theorem great14 (a : Option Addr) (cap : Nat) (T : List Key) (w : World) (hT : TextsIn w a T) (hmx : T.length ≤ 9223372036854775807) :
    Calls Try.prog 6 #[.slice a T.length cap] w fun e w' => e = .returned (.bool (greatZ T)) ∧ w = w' := by
  have HT := Lib.hid hT
  clear hT
  go_enter Try.func6, Try.ntmps6
  go_wp2_with fail
  go_loopw [3] (fun i wr => ∃ k : Nat, k ≤ T.length ∧ i = .int .i64 k ∧ Hid ((T.take k).any (fun x => decide (100 < x.length)) = false) ∧ wr = w) (fun i _ => T.length - (intOf i).toNat)
  case atStart => exact ⟨0, Nat.zero_le _, rfl, rfl, rfl⟩
  case round =>
    obtain ⟨k, hk, rfl, HN, rfl⟩ := hrel
    by_cases hlt : k < T.length
    · obtain ⟨x, hx⟩ : ∃ x, T[k]? = some x := ⟨_, List.getElem?_eq_getElem hlt⟩
      obtain ⟨b, off, rfl, hb, hc⟩ := HT.out k x hx
      rw [show strV x = Value.string ⟨x.toArray⟩ from rfl] at hc
      have hlt2 : (k : Int) < (T.length : Int) := by omega
      by_cases hs : 100 < x.length
      · have HG : Hid (greatZ T = true) := Lib.hid (by
          unfold greatZ
          rw [Bool.or_eq_true, List.any_eq_true]
          exact .inl ⟨x, List.mem_of_getElem? hx, by simpa using hs⟩)
        clear hx
        go_wp2
        go_ret
        exact ⟨by rw [HG.out]; rfl, rfl⟩
      · have HN2 : Hid ((T.take (k + 1)).any (fun x => decide (100 < x.length)) = false) := Lib.hid (by
          obtain ⟨h1, h2⟩ := List.getElem?_eq_some_iff.1 hx
          rw [List.take_succ_eq_append_getElem h1, List.any_append, HN.out, h2]
          simp; omega)
        clear hx
        go_wp2
        go_roundw
        case rel => exact ⟨k + 1, by omega, by go_num, HN2, trivial⟩
        case measure => simp [intOf]; omega
    · have HG : Hid (greatZ T = decide (100 < T.length)) := Lib.hid (by
        have h1 := HN.out
        rw [List.take_of_length_le (by omega)] at h1
        unfold greatZ
        rw [h1, Bool.false_or])
      have hnl : ¬ (k : Int) < (T.length : Int) := by omega
      go_wp2
      go_ret
      refine ⟨?_, rfl⟩
      rw [HG.out]
      first
        | rfl
        | (simp; done)
        | (simp; omega)
theorem ref_Long14 (s : ByteArray) (w : World) :
    Calls Try.prog 7 #[.string s] w fun e w' => e = .returned (.bool (decide (300 < s.size))) ∧ w = w' := by
  by_cases h : 300 < s.size
  · refine (ref_Long_yes s w h).mono ?_
    rintro e w' ⟨rfl, rfl⟩
    exact ⟨by rw [decide_eq_true h], rfl⟩
  · refine (ref_Long_no s w (by omega)).mono ?_
    rintro e w' ⟨rfl, rfl⟩
    exact ⟨by rw [decide_eq_false h], rfl⟩

/-- The document's example. -/
theorem exZ : refZ [([97], 2), ([97, 47, 98], 1), ([97], 1)] = [([97], 1), ([97], 2), ([97, 47, 98], 1)] := by decide
theorem twoA (W : World) (l m : List Value) (hl : l.length = 3) (hm : m.length = 3) : ∃ W2, (W.alloc (.cells l.toArray 9)).alloc (.cells m.toArray 3) = W2 ∧ Below W.heap.size W W2 ∧
    W2.ownsRow W.heap.size 9 1 (.slice (some ⟨W.heap.size, 0, none⟩) 3 3) l.length l ∧ W2.ownsRow W.heap.size 3 1 (.slice (some ⟨W.heap.size + 1, 0, none⟩) 3 3) m.length m := by
  have b1 : Blk 9 (W.alloc (.cells l.toArray 9)) W.heap.size l := Blk.new
  have b2 : Blk 3 ((W.alloc (.cells l.toArray 9)).alloc (.cells m.toArray 3)) (W.alloc (.cells l.toArray 9)).heap.size m := Blk.new
  rw [World.size_alloc] at b2
  have r1 := lit_row (base := W.heap.size) (b1.alloc (.cells m.toArray 3)) (Nat.le_refl _) (by omega)
  have r2 := lit_row (base := W.heap.size) b2 (by omega) (by omega)
  rw [hl] at r1 ⊢
  rw [hm] at r2 ⊢
  exact ⟨_, rfl, below_step (new_below _ _) (new_below _ _), r1, r2⟩
set_option maxRecDepth 100000 in
set_option maxHeartbeats 4000000 in
theorem awake14 (w : World) : Calls Try.prog 5 #[] w fun e w' => e = .returned (.bool true) ∧ Below w.heap.size w w' := by
  obtain ⟨W2, hW2, B2, r1, r2⟩ := twoA w (([[97], [97, 47, 98], [97]] : List Key).map keyV) (([2, 1, 1] : List Int).map numV) rfl rfl
  have hof := law_of (c1 := 3) (c2 := 3) (T := [[97], [97, 47, 98], [97]]) (N := [2, 1, 1]) (own_texts r1).1 (fun k x hx => nums_at (own_numsIn r2) k x hx) (by decide) (by decide)
  have HB2 := Lib.hid B2
  have HOF := Lib.hid hof
  clear r1 r2 B2 hof
  go_enter Try.func5, Try.ntmps5
  go_wp2_with fail
  rw [show (w.alloc (.cells #[.string ⟨#[97]⟩, .string ⟨#[97, 47, 98]⟩, .string ⟨#[97]⟩] 9)).alloc (.cells #[.int .i64 2, .int .i64 1, .int .i64 1] 3) = W2 from hW2]
  clear hW2
  refine HOF.out.mono ?_
  rintro e W3 ⟨o, rfl, hwt, hnd, hB3⟩
  obtain ⟨q, hq⟩ := nd_form o
  have hpr : prs o = [([97], 1), ([97], 2), ([97, 47, 98], 1)] := (prs_ref hwt).trans exZ
  have hpp := law_pairs_false (tells_of hwt hnd (by decide) (by decide)) ⟨#[]⟩ (by rw [hpr]; decide)
  rw [hpr, hq] at hpp
  have HPP := Lib.hid hpp
  have HB3 := Lib.hid (below_step HB2.out hB3)
  rw [hq]
  clear hpp hwt hnd hB3 hq hpr HOF
  go_wp2_with fail
  refine HPP.out.mono ?_
  rintro e W4 ⟨v, u, rfl, hv, hu, hB4⟩
  have HB4 := Lib.hid (below_step HB3.out hB4)
  have hB := new_below W4 (.cells #[.string ⟨#[97]⟩, .string ⟨#[97]⟩, .string ⟨#[97, 47, 98]⟩] 9)
  have hx : (W4.alloc (.cells #[.string ⟨#[97]⟩, .string ⟨#[97]⟩, .string ⟨#[97, 47, 98]⟩] 9)).ownsRow W4.heap.size 9 1 (.slice (some ⟨W4.heap.size, 0, none⟩) 3 3) 3 (([[97], [97], [97, 47, 98]] : List Key).map keyV) :=
    lit_row (l := ([[97], [97], [97, 47, 98]] : List Key).map keyV) Blk.new (Nat.le_refl _) (by decide)
  have htx := ref_TextsO (L := [[97], [97], [97, 47, 98]]) (M := [[97], [97], [97, 47, 98]]) (own_only hv (Only.of_below hB (fun _ => False)) fun _ _ e => e) hx (by decide) (by decide)
  have HTX := Lib.hid htx
  have HB5 := Lib.hid (below_step HB4.out hB)
  have HU : Hid (NumsIn (W4.alloc (.cells #[.string ⟨#[97]⟩, .string ⟨#[97]⟩, .string ⟨#[97, 47, 98]⟩] 9)) u [1, 2, 1]) := Lib.hid ((own_numsIn (L := [1, 2, 1]) hu).below hB)
  clear htx hx hB hv hu hB4
  go_wp2_with fail
  refine HTX.out.mono ?_
  rintro e W5 ⟨rfl, hB5⟩
  rw [show (([[97], [97], [97, 47, 98]] : List Key) == [[97], [97], [97, 47, 98]]) = true from rfl]
  have hB := new_below W5 (.cells #[.int .i64 1, .int .i64 2, .int .i64 1] 3)
  have hy : NumsIn (W5.alloc (.cells #[.int .i64 1, .int .i64 2, .int .i64 1] 3)) (.slice (some ⟨W5.heap.size, 0, none⟩) 3 3) [1, 2, 1] :=
    own_numsIn (lit_row (base := 0) (l := ([1, 2, 1] : List Int).map numV) Blk.new (Nat.zero_le _) (by decide))
  have hix := ref_Ints _ _ _ _ _ ((HU.out.below hB5).below hB) hy (by decide) (by decide)
  have HIX := Lib.hid hix
  have HB6 := Lib.hid (below_step (below_step HB5.out hB5) hB)
  clear hix hy hB hB5 HTX HU
  go_wp2_with fail
  refine HIX.out.mono ?_
  rintro e W6 ⟨rfl, hB6⟩
  have HB7 := Lib.hid (below_step HB6.out hB6)
  clear hB6 HIX
  go_wp2_with fail
  go_ret
  exact ⟨rfl, HB7.out⟩
end Go.Proofs.Ytabgedmocdjkcaa
