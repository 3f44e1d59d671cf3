/- The statement TopicEach of layer 1, as a walk: it returns true and changes nothing that was there. No conditions. -/
import Derived.Test.YtlochonkllhmgaaLaw1
import Derived.Test.YtlochonkllhmgaaRange
import Derived.OpenShut
namespace Go.Proofs.Ytlochonkllhmgaa
open Go.RowKit Go.Shelf

attribute [local go_sem] Oper.semAt_some

theorem boxed_below {W W' : World} {n B : Nat} {t : TypeId} {v : Value} (h : Boxed W B t v) (hb : Below n W W') (hlt : B < n) : Boxed W' B t v := (hb.block B hlt).trans h

theorem enum_getElem? : ∀ (k : Nat) (L : List (List UInt8)) (i : Nat), (enum k L)[i]? = (L[i]?).map fun x => (k + i, x)
  | _, [], _ => by simp [enum]
  | k, x :: r, 0 => by simp [enum]
  | k, x :: r, i + 1 => by
    rw [enum, List.getElem?_cons_succ, List.getElem?_cons_succ, enum_getElem? (k + 1) r i]
    have e : k + 1 + i = k + (i + 1) := by omega
    rw [e]
theorem prefix_step {α : Type} {pre E : List α} {x : α} (h : pre <+: E) (hx : E[pre.length]? = some x) : pre ++ [x] <+: E := by
  obtain ⟨t, rfl⟩ := h
  cases t with
  | nil => simp at hx
  | cons y t => simp at hx; subst hx; exact ⟨t, by simp⟩
theorem prefix_last {α : Type} {pre E : List α} {x : α} (h : pre ++ [x] <+: E) : E[pre.length]? = some x := by
  obtain ⟨t, rfl⟩ := h
  simp
theorem enum_step {L : List (List UInt8)} {pre : List (Nat × List UInt8)} {y : List UInt8} (h : pre <+: enum 0 L) (hy : L[pre.length]? = some y) : pre ++ [(pre.length, y)] <+: enum 0 L :=
  prefix_step h (by rw [enum_getElem?, hy]; simp)
theorem enum_wrong {L : List (List UInt8)} {pre : List (Nat × List UInt8)} {x : Nat × List UInt8} {y : List UInt8} (hy : L[pre.length]? = some y) (hx : x ≠ (pre.length, y)) : ¬ pre ++ [x] <+: enum 0 L := by
  intro h
  have := prefix_last h
  rw [enum_getElem?, hy] at this
  simp at this
  exact hx this.symm
theorem eachIx_own {n₀ B : Nat} {W0 : World} {L : List (List UInt8)} {c : Code} (hn : n₀ ≤ W0.heap.size) (hB : n₀ ≤ B) :
    OwnFrom B (fun (pre : List (Nat × List UInt8)) W => (c = .ret ∧ Hid (¬ pre <+: enum 0 L)) ∨ (c = .exit 2 ∧ Below n₀ W0 W)) := by
  rintro s W W' row (h | ⟨hc, h⟩) hg hr
  · exact .inl h
  · exact .inr ⟨hc, ownFrom_below hn hB s W W' row h hg hr⟩

theorem eql_func_nil (B : Nat) (W : World) : (binOp .eql 29 (.func (.func 25) #[] #[.pointer (some ⟨B, 0, none⟩)]) .nilFunc).run Try.prog W = .ok (.bool false) W := by kernel_rfl

set_option maxRecDepth 100000 in
set_option maxHeartbeats 4000000 in
theorem each_walk (s : ByteArray) (few : Int) (hf0 : 0 ≤ few) (hf1 : few ≤ 255) (w : World) (hl : s.size ≤ 300) :
    Calls Try.prog 4 #[.string s, .int .u8 few] w fun e w' => e = .returned (.bool true) ∧ Below w.heap.size w w' := by
  have hs : s.size ≤ 1048576 := by omega
  refine (callsIn_wide (n := 6)).1 ?_
  refine callsIn_of_wp_marks Try.func4 rfl trivial ?_ rfl
  simp only [Try.ntmps4, List.size_toArray, List.length_cons, List.length_nil, Nat.reduceAdd, Nat.reduceSub, Array.replicate_succ, Array.replicate_zero, List.push_toArray, List.append_toArray, List.nil_append, List.cons_append]
  gi_wp2_with fail
  refine ⟨trivial, (callsIn_wide.2 (awake1 _)).mono ?_⟩
  rintro e w1 ⟨rfl, h1⟩
  have b0 := boxed_below ((Boxed.new w 5 (.int .u8 few)).alloc (.cells #[.bool false] 4)) h1 (by simp; omega)
  have b1 := Boxed.new (w.alloc (.cells #[.int .u8 few] 5)) 4 (.bool false)
  rw [World.size_alloc] at b1
  have b1 := boxed_below b1 h1 (by simp)
  have B1 : Below w.heap.size w w1 := (((Below.refl _ w).alloc (Nat.le_refl _) _).alloc (by simp) _).trans (h1.mono (by simp; omega))
  have hsz1 : w.heap.size + 2 ≤ w1.heap.size := by have := h1.size; simp at this; omega
  clear h1
  gi_wp2_with fail
  refine ⟨trivial, (callsIn_wide.2 (ref_Long_no _ _ hl)).mono ?_⟩
  rintro e w' ⟨rfl, rfl⟩
  gi_wp2_with fail
  refine ⟨trivial, (callsIn_wide.2 (ref_Levels_cells _ _ hs)).mono ?_⟩
  rintro e w2 ⟨g, cap, rfl, hg1, hg2, hc, h2⟩
  obtain ⟨L, HL⟩ : ∃ L, Hid (lv s.data.toList = L) := ⟨_, rfl⟩
  have hll : (lv s.data.toList).length ≤ 301 := by
    have h1 := lv_length s.data.toList
    have h2 := List.count_le_length (a := (47 : UInt8)) (l := s.data.toList)
    rw [← Lib.size_eq] at h2; omega
  rw [HL.out] at hc hll ⊢
  have HC := Lib.hid hc
  clear hc
  have b0 := boxed_below b0 h2 b0.lt
  have b1 := boxed_below b1 h2 b1.lt
  have B2 := below_step B1 h2
  have hsz2 : w.heap.size + 2 ≤ w2.heap.size := Nat.le_trans hsz1 h2.size
  clear B1 h2 hsz1
  gi_wp2_with fail
  refine ⟨trivial, (callsIn_wide.2 (topic_Each _ _)).mono ?_⟩
  rintro e w' ⟨rfl, rfl⟩
  have heq := eql_func_nil
  gi_wp2_with fail
  have b2 := (Boxed.new w2 24 (.slice (some ⟨g, 0, none⟩) L.length cap)).alloc (.cells #[.string s] 9)
  have b3 := Boxed.new (w2.alloc (.cells #[.slice (some ⟨g, 0, none⟩) L.length cap] 24)) 9 (.string s)
  have b4 := Boxed.new ((w2.alloc (.cells #[.slice (some ⟨g, 0, none⟩) L.length cap] 24)).alloc (.cells #[.string s] 9)) 3 (.int .i64 0)
  rw [World.size_alloc] at b3
  rw [World.size_alloc, World.size_alloc] at b4
  have b2 := b2.alloc (.cells #[.int .i64 0] 3)
  have b3 := b3.alloc (.cells #[.int .i64 0] 3)
  have b0 := ((b0.alloc (.cells #[.slice (some ⟨g, 0, none⟩) L.length cap] 24)).alloc (.cells #[.string s] 9)).alloc (.cells #[.int .i64 0] 3)
  have b1 := ((b1.alloc (.cells #[.slice (some ⟨g, 0, none⟩) L.length cap] 24)).alloc (.cells #[.string s] 9)).alloc (.cells #[.int .i64 0] 3)
  have B3 := ((B2.alloc B2.size (.cells #[.slice (some ⟨g, 0, none⟩) L.length cap] 24)).alloc (by simp; omega) (.cells #[.string s] 9)).alloc (by simp; omega) (.cells #[.int .i64 0] 3)
  have HC3 : Hid (∀ (i : Nat) x, L[i]? = some x → (((w2.alloc (.cells #[.slice (some ⟨g, 0, none⟩) L.length cap] 24)).alloc (.cells #[.string s] 9)).alloc (.cells #[.int .i64 0] 3)).cell? ⟨g, i, none⟩ = some (.string ⟨x.toArray⟩)) := fun i x hx => by
    rw [World.cell?_alloc_lt _ _ _ (by simp; omega), World.cell?_alloc_lt _ _ _ (by simp; omega), World.cell?_alloc_lt _ _ _ hg2]; exact HC.out i x hx
  obtain ⟨W3, HW3⟩ : ∃ W3, Hid ((((w2.alloc (.cells #[.slice (some ⟨g, 0, none⟩) L.length cap] 24)).alloc (.cells #[.string s] 9)).alloc (.cells #[.int .i64 0] 3)) = W3) := ⟨_, rfl⟩
  have hz3 : W3.heap.size = w2.heap.size + 3 := by rw [← HW3.out]; simp
  rw [HW3.out] at b0 b1 b2 b3 b4 B3 HC3 ⊢
  clear HC B2 HW3 heq
  obtain ⟨A, HA⟩ : ∃ A, Hid (w2.heap.size = A) := ⟨_, rfl⟩
  rw [HA.out] at b2 b3 b4 hz3 hg2 hsz2 ⊢
  have HZ3 := Lib.hid hz3
  refine wpIn_loop_rounds 3 ?_
  rw [roundsIn_succ]
  have c4 := b4.cell
  gi_wp2_with fail
  have bk := Boxed.new W3 3 (.int .i64 0)
  rw [HZ3.out] at bk
  refine range_block (id := 2) rfl (by omega) (gf := 25) (lb := #[.pointer (some ⟨A + 1, 0, none⟩)]) rfl trivial (enters_of Try.func25 (by kernel_rfl) rfl)
    (topic_Each_stops (6 - 1) (by omega) (A + 1) s hs _ (by simp; omega) (b3.alloc _).cell) walksK_t walksK_b (Below.refl _ _) (fun _ => rfl)
    (fun (pre : List (Nat × List UInt8)) W => (Boxed W (A + 3) 3 (.int .i64 (pre.length : Int)) ∧ Hid (pre <+: enum 0 L)) ∧ Below (A + 3) W3 W)
    (fun c (pre : List (Nat × List UInt8)) W => (c = .ret ∧ Hid (¬ pre <+: enum 0 L)) ∨ (c = .exit 2 ∧ Below (A + 3) W3 W))
    (OwnFrom.and (OwnFrom.and (Own.from (boxed_own _ _ _) _) (fun _ _ _ _ hs _ _ => hs)) (ownFrom_below (by omega) (by simp; omega)))
    (fun c => eachIx_own (by omega) (by simp; omega))
    ⟨⟨bk, List.nil_prefix⟩, (Below.refl _ _).alloc (by omega) _⟩
    (fun x => { tmps := #[.string s, .int .u8 few, undef, .pointer (some ⟨w.heap.size, 0, none⟩), .pointer (some ⟨w.heap.size + 1, 0, none⟩), .pointer (some ⟨A, 0, none⟩), .func (.func 25) #[] #[.pointer (some ⟨A + 1, 0, none⟩)], .pointer (some ⟨A + 1 + 1, 0, none⟩), .pointer (some ⟨A + 3, 0, none⟩), .int .i64 (x.1 : Int), .string ⟨x.2.toArray⟩, .bool true, .bool false, .string s, .bool false, .string s, .slice (some ⟨g, 0, none⟩) L.length cap, .string s, .func (.func 25) #[] #[.pointer (some ⟨A + 1, 0, none⟩)], .func (.func 25) #[] #[.pointer (some ⟨A + 1, 0, none⟩)], .bool false, .int .i64 0, .bool true, undef, undef, .func (.func 25) #[] #[.pointer (some ⟨A + 1, 0, none⟩)], .int .i64 (x.1 : Int), .string ⟨x.2.toArray⟩, undef, undef, undef, undef, undef, undef, undef, undef, undef, undef, undef, undef, undef, undef, undef, undef, undef, undef, undef, undef, undef, undef, undef, undef, undef, undef, undef, undef, undef, undef, undef, undef, undef, undef, undef, undef], defers := [] })
    (fun W => Below (A + 3) W3 W) (fun _ _ _ h => h.2) (fun c pre W hp h => h.elim (fun h => absurd (by rw [HL.out] at hp; exact hp) h.2.out) (fun h => h)) ?assign0 ?body0 ?done0
  case assign0 =>
    intro l x W K hK
    gi_wp2
    exact hK
  case body0 =>
    rintro l pre x W ⟨⟨hbk, HP⟩, hB⟩ hlt
    rw [HL.out] at hlt
    have hck := hbk.cell
    have hfk := hbk.frozen
    have hcl := (boxed_below b2 hB (by omega)).cell
    have hcr := (boxed_below b4 hB (by omega)).cell
    have hcf := (boxed_below b0 hB (by omega)).cell
    have hcb := (boxed_below b1 hB (by omega)).cell
    have hfb := (boxed_below b1 hB (by omega)).frozen
    obtain ⟨i, z⟩ := x
    obtain ⟨y, HY⟩ : ∃ y, Hid (L[pre.length]? = some y) := ⟨L[pre.length], List.getElem?_eq_getElem hlt⟩
    have hrow := (hB.cell (p := ⟨g, pre.length, none⟩) (by simp; omega)).trans (HC3.out pre.length y HY.out)
    by_cases hi : i = pre.length
    · subst hi
      by_cases hz : z = y
      · subst hz
        by_cases hbr : few < (pre.length : Int) + 1
        · gi_wp2
          exact ⟨(KeepsOthers.setCell _ _ _).from _, .inr ⟨rfl, hB.setCell (p := ⟨A + 3, 0, none⟩) (Nat.le_refl _) _⟩⟩
        · gi_wp2
          refine ⟨(KeepsOthers.setCell _ _ _).from _, KeepsWalks.setCell _ _ _, ⟨?_, enum_step HP.out HY.out⟩, hB.setCell (p := ⟨A + 3, 0, none⟩) (Nat.le_refl _) _⟩
          have := hbk.set (.int .i64 ((pre.length : Int) + 1))
          simpa using this
      · have hz1 : (z == y) = false := by simpa using hz
        gi_wp2
        exact ⟨(KeepsOthers.setCell _ _ _).from _, .inl ⟨rfl, enum_wrong HY.out (fun e => hz (by injection e))⟩⟩
    · have hi1 : ((i : Int) != (pre.length : Int)) = true := by simp; omega
      gi_wp2
      exact ⟨(KeepsOthers.setCell _ _ _).from _, .inl ⟨rfl, enum_wrong HY.out (fun e => hi (by injection e))⟩⟩
  case done0 =>
    intro D W hD hB hK
    have hcr := (boxed_below b4 hB (by omega)).cell
    gi_wp2_with fail
    have hDl : D < W.heap.size := (Array.getElem?_eq_some_iff.1 hK).1
    have hD : A + 3 + 1 ≤ D := by simp at hD; omega
    have b0 := (boxed_below b0 hB (by omega)).alloc (.cells #[.int .i64 1] 3)
    have b1 := (boxed_below b1 hB (by omega)).alloc (.cells #[.int .i64 1] 3)
    have b2 := (boxed_below b2 hB (by omega)).alloc (.cells #[.int .i64 1] 3)
    have b3 := (boxed_below b3 hB (by omega)).alloc (.cells #[.int .i64 1] 3)
    have b4 := Boxed.new W 3 (.int .i64 1)
    have hK4 : (W.alloc (.cells #[.int .i64 1] 3)).heap[D]? = some (.deferred (some [])) := (Below.heap_alloc _ _ _ hDl).trans hK
    have B4 := (B3.trans (hB.mono (by omega))).alloc (by have := B3.size; have := hB.size; omega) (.cells #[.int .i64 1] 3)
    have HC4 : Hid (∀ (i : Nat) x, L[i]? = some x → (W.alloc (.cells #[.int .i64 1] 3)).cell? ⟨g, i, none⟩ = some (.string ⟨x.toArray⟩)) := fun i x hx => by
      rw [World.cell?_alloc_lt _ _ _ (by simp; omega)]
      exact (hB.cell (p := ⟨g, i, none⟩) (by simp; omega)).trans (HC3.out i x hx)
    obtain ⟨W4, HW4⟩ : ∃ W4, Hid (W.alloc (.cells #[.int .i64 1] 3) = W4) := ⟨_, rfl⟩
    have hz4 : W4.heap.size = W.heap.size + 1 := by rw [← HW4.out]; simp
    rw [HW4.out] at b0 b1 b2 b3 b4 B4 HC4 hK4 ⊢
    obtain ⟨C, HCC⟩ : ∃ C, Hid (W.heap.size = C) := ⟨_, rfl⟩
    rw [HCC.out] at b4 hz4 hDl ⊢
    clear HC3 B3 HW4 hB hK hcr HCC
    have HZ4 := Lib.hid hz4
    rw [roundsIn_succ]
    have c4 := b4.cell
    gi_wp2_with fail
    have bk := Boxed.new W4 3 (.int .i64 0)
    rw [HZ4.out] at bk
    refine range_block (id := 2) rfl (by omega) (gf := 25) (lb := #[.pointer (some ⟨A + 1, 0, none⟩)]) rfl trivial (enters_of Try.func25 (by kernel_rfl) rfl)
      (topic_Each_stops (6 - 1) (by omega) (A + 1) s hs _ (by simp; omega) (b3.alloc _).cell) walksK_t walksK_b (Below.refl _ _) (fun _ => rfl)
      (fun (pre : List (Nat × List UInt8)) W => (Boxed W (C + 1) 3 (.int .i64 (pre.length : Int)) ∧ Hid (pre <+: enum 0 L)) ∧ Below (C + 1) W4 W)
      (fun c (pre : List (Nat × List UInt8)) W => c = .ret ∧ Hid (¬ pre <+: enum 0 L))
      (OwnFrom.and (OwnFrom.and (Own.from (boxed_own _ _ _) _) (fun _ _ _ _ hs _ _ => hs)) (ownFrom_below (by omega) (by simp; omega)))
      (fun c _ _ _ _ hs _ _ => hs)
      ⟨⟨bk, List.nil_prefix⟩, (Below.refl _ _).alloc (by omega) _⟩
      (fun x => { tmps := #[.string s, .int .u8 few, undef, .pointer (some ⟨w.heap.size, 0, none⟩), .pointer (some ⟨w.heap.size + 1, 0, none⟩), .pointer (some ⟨A, 0, none⟩), .func (.func 25) #[] #[.pointer (some ⟨A + 1, 0, none⟩)], .pointer (some ⟨C, 0, none⟩), .pointer (some ⟨C + 1, 0, none⟩), .int .i64 (x.1 : Int), .string ⟨x.2.toArray⟩, .bool true, .bool false, .string s, .bool false, .string s, .slice (some ⟨g, 0, none⟩) L.length cap, .string s, .func (.func 25) #[] #[.pointer (some ⟨A + 1, 0, none⟩)], .func (.func 25) #[] #[.pointer (some ⟨A + 1, 0, none⟩)], .bool false, .int .i64 1, .bool true, .int .i64 0, .int .i64 1, .func (.func 25) #[] #[.pointer (some ⟨A + 1, 0, none⟩)], .int .i64 (x.1 : Int), .string ⟨x.2.toArray⟩, undef, undef, undef, undef, undef, undef, undef, undef, undef, undef, undef, undef, undef, undef, undef, undef, undef, undef, undef, undef, undef, undef, undef, undef, undef, undef, undef, .int .i64 0, .bool false, .bool false, undef, undef, undef, undef, .bool false, .int .i64 0], defers := [] })
      (fun W => Boxed W (C + 1) 3 (.int .i64 (L.length : Int)) ∧ Below (C + 1) W4 W) (fun xs W hxs h => ⟨by have := h.1.1; rwa [hxs, HL.out, enum_length] at this, h.2⟩) (fun c pre W hp h => absurd (by rw [HL.out] at hp; exact hp) h.2.out) ?assign1 ?body1 ?done1
    case assign1 =>
      intro l x W K hK
      gi_wp2
      exact hK
    case body1 =>
      rintro l pre x W ⟨⟨hbk, HP⟩, hB⟩ hlt
      rw [HL.out] at hlt
      have hck := hbk.cell
      have hfk := hbk.frozen
      have hcl := (boxed_below b2 hB (by omega)).cell
      have hcr := (boxed_below b4 hB (by omega)).cell
      have hcf := (boxed_below b0 hB (by omega)).cell
      have hcb := (boxed_below b1 hB (by omega)).cell
      have hfb := (boxed_below b1 hB (by omega)).frozen
      obtain ⟨i, z⟩ := x
      obtain ⟨y, HY⟩ : ∃ y, Hid (L[pre.length]? = some y) := ⟨L[pre.length], List.getElem?_eq_getElem hlt⟩
      have hrow := (hB.cell (p := ⟨g, pre.length, none⟩) (by simp; omega)).trans (HC4.out pre.length y HY.out)
      by_cases hi : i = pre.length
      · subst hi
        by_cases hz : z = y
        · subst hz
          gi_wp2
          refine ⟨(KeepsOthers.setCell _ _ _).from _, KeepsWalks.setCell _ _ _, ⟨?_, enum_step HP.out HY.out⟩, hB.setCell (p := ⟨C + 1, 0, none⟩) (Nat.le_refl _) _⟩
          have := hbk.set (.int .i64 ((pre.length : Int) + 1))
          simpa using this
        · have hz1 : (z == y) = false := by simpa using hz
          gi_wp2
          exact ⟨(KeepsOthers.setCell _ _ _).from _, rfl, enum_wrong HY.out (fun e => hz (by injection e))⟩
      · have hi1 : ((i : Int) != (pre.length : Int)) = true := by simp; omega
        gi_wp2
        exact ⟨(KeepsOthers.setCell _ _ _).from _, rfl, enum_wrong HY.out (fun e => hi (by injection e))⟩
    case done1 =>
      rintro D2 W hD2 ⟨hbk, hB⟩ hK2
      have hcr := (boxed_below b4 hB (by omega)).cell
      have hck := hbk.cell
      have hcl := (boxed_below b2 hB (by omega)).cell
      gi_wp2_with fail
      have hb1 := (boxed_below b1 hB (by omega)).alloc (.cells #[.int .i64 2] 3)
      have hK1 : (W.alloc (.cells #[.int .i64 2] 3)).heap[D]? = some (.deferred (some [])) := (Below.heap_alloc _ _ _ (by have := hB.size; omega)).trans ((hB.block D (by omega)).trans hK4)
      have hD2l : D2 < W.heap.size := (Array.getElem?_eq_some_iff.1 hK2).1
      have hK2 : (W.alloc (.cells #[.int .i64 2] 3)).heap[D2]? = some (.deferred (some [])) := (Below.heap_alloc _ _ _ hD2l).trans hK2
      have b5 := Boxed.new W 3 (.int .i64 2)
      have B5 := (B4.trans (hB.mono (by omega))).alloc (by have := B4.size; have := hB.size; omega) (.cells #[.int .i64 2] 3)
      obtain ⟨W5, HW5⟩ : ∃ W5, Hid (W.alloc (.cells #[.int .i64 2] 3) = W5) := ⟨_, rfl⟩
      rw [HW5.out] at hb1 hK1 hK2 b5 B5 ⊢
      rw [roundsIn_succ]
      have c5 := b5.cell
      have c1 := hb1.cell
      have f1 := hb1.frozen
      gi_wp2
      have hDD : D ≠ D2 := by simp at hD2; omega
      have hK2' := (KeepsOthers.setCell W5 ⟨w.heap.size + 1, 0, none⟩ (.bool true)).same D2 _ hK2 rfl
      have hK1' := (KeepsOthers.setCell W5 ⟨w.heap.size + 1, 0, none⟩ (.bool true)).same D _ hK1 rfl
      have hK1'' : ((W5.setCell ⟨w.heap.size + 1, 0, none⟩ (.bool true)).putObj D2 (.deferred none)).heap[D]? = some (.deferred (some [])) := (World.putObj_heap_other hDD).trans hK1'
      refine ⟨by simp, .inl ⟨_, _, rfl, run_takeDeferred hK2', ?_⟩⟩
      refine ⟨by simp, .inl ⟨_, _, rfl, run_takeDeferred hK1'', ?_⟩⟩
      have k1 := cell_kept (hb1.set (.bool true)).cell (grownBy_putObj' _ D2 (.deferred none)) (fun r e => by cases e; exact ⟨_, hK2', rfl⟩)
      have k2 := cell_kept k1 (grownBy_putObj' _ D (.deferred none)) (fun r e => by cases e; exact ⟨_, hK1'', rfl⟩)
      refine ⟨.bool true, ?_, rfl, ((B5.setCell (p := ⟨w.heap.size + 1, 0, none⟩) (by simp) _).trans (belowK_b (w := w) (Nat.le_refl _) _ D2 _ _ (by simp at hD2; omega) hK2' rfl rfl)).trans (belowK_b (w := w) (Nat.le_refl _) _ D _ _ (by omega) hK1'' rfl rfl)⟩
      simp [results, Try.f4, go_sem, k2]

theorem each_walk_long (s : ByteArray) (few : Int) (w : World) (hl : 300 < s.size) :
    Calls Try.prog 4 #[.string s, .int .u8 few] w fun e w' => e = .returned (.bool true) ∧ Below w.heap.size w w' := by
  go_enter Try.func4, Try.ntmps4
  go_wp2_with fail
  refine (awake1 _).mono ?_
  rintro e w1 ⟨rfl, h1⟩
  have b1 := Boxed.new (w.alloc (.cells #[.int .u8 few] 5)) 4 (.bool false)
  rw [World.size_alloc] at b1
  have b1 := boxed_below b1 h1 (by simp)
  have B1 : Below w.heap.size w w1 := (((Below.refl _ w).alloc (Nat.le_refl _) _).alloc (by simp) _).trans (h1.mono (by simp; omega))
  have c1 := b1.cell
  have f1 := b1.frozen
  go_wp2_with fail
  refine (ref_Long_yes _ _ hl).mono ?_
  rintro e w' ⟨rfl, rfl⟩
  go_wp2
  have k1 := (b1.set (.bool true)).cell
  exact bodyPost_ret (v := .bool true) (by simp [results, Try.f4, go_sem, k1]) rfl ⟨rfl, B1.setCell (p := ⟨w.heap.size + 1, 0, none⟩) (by simp) _⟩

theorem each_any (s : ByteArray) (few : Int) (hf : (Lit.int .u8 few).wf = true) (w : World) :
    Calls Try.prog 4 #[.string s, .int .u8 few] w fun e w' => e = .returned (.bool true) ∧ Below w.heap.size w w' := by
  have hb := bounds_u8 hf
  by_cases hl : s.size ≤ 300
  · exact each_walk s few hb.1 hb.2 w hl
  · exact each_walk_long s few w (by omega)

end Go.Proofs.Ytlochonkllhmgaa
