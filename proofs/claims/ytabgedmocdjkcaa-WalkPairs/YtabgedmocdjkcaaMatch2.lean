/- What the program's layer 2 (package match) comes to: contracts over the program's text. No conditions. -/
import Derived.Test.YtabgedmocdjkcaaTopic1
import Derived.Test.YtabgedmocdjkcaaJoin4
import Derived.Test.YtabgedmocdjkcaaBytes2
import Derived.Test.YtabgedmocdjkcaaRange
namespace Go.Proofs.Ytabgedmocdjkcaa
open Go.RowKit Go.Shelf

attribute [local go_sem] Oper.semAt_some

/-- strings.HasPrefix of one byte. -/
theorem sl_HasPrefix (s : ByteArray) (c : UInt8) (w : World) :
    Calls Try.prog 68 #[.string s, .string ⟨#[c]⟩] w fun e w' => e = .returned (.bool (s.data.toList.head? == some c)) ∧ w = w' := by
  by_cases h : 1 ≤ s.size
  · have H := Lib.hid (show ((s.extract 0 1).toList == [c]) = (s.data.toList.head? == some c) by
      rw [Lib.toList_data, Lib.extract_eq]
      have hl := Lib.size_eq s
      cases e : s.data.toList with
      | nil => rw [e] at hl; have hl0 : s.size = 0 := hl; omega
      | cons b l => simp)
    go_enter Try.func68, Try.ntmps68
    go_wp2
    go_ret
    exact ⟨by rw [← H.out]; rfl, rfl⟩
  · have H := Lib.hid (show (s.data.toList.head? == some c) = false by
      have hl := Lib.size_eq s
      cases e : s.data.toList with
      | nil => rfl
      | cons b l => rw [e] at hl; simp at hl; omega)
    go_enter Try.func68, Try.ntmps68
    go_wp2
    go_ret
    exact ⟨by rw [H.out]; rfl, rfl⟩
theorem strings_HasPrefix (s : ByteArray) (c : UInt8) (w : World) :
    Calls Try.prog 47 #[.string s, .string ⟨#[c]⟩] w fun e w' => e = .returned (.bool (s.data.toList.head? == some c)) ∧ w = w' := by
  go_enter Try.func47, Try.ntmps47
  go_wp2_with (go_at_call 68; refine (sl_HasPrefix _ _ _).mono ?_; rintro e w' ⟨rfl, rfl⟩)
  go_ret
  exact ⟨rfl, rfl⟩

/-- match.levelAlike. -/
theorem match_levelAlike (a b : List UInt8) (w : World) :
    Calls Try.prog 69 #[strV a, strV b] w fun e w' => e = .returned (.bool (alikeZ a b)) ∧ w = w' := by
  have HA := Lib.hid (show alikeZ a b = ((a == b) || ((a == [43]) && !(b == [35]))) from rfl)
  cases h1 : (a == b) <;> cases h2 : (a == [43]) <;> cases h3 : (b == [35])
  all_goals
    have H := Lib.hid (show alikeZ a b = ((a == b) || ((a == [43]) && !(b == [35]))) from rfl)
    rw [h1, h2, h3] at H
    go_enter Try.func69, Try.ntmps69
    go_wp2
    go_ret
    exact ⟨by rw [H.out]; rfl, rfl⟩

/-- What is left of a row of texts behind the first k. -/
def leftOf (g N k : Nat) (v : Value) : Prop := ∃ p c, v = .slice (some p) (N - k) c ∧ N - k ≤ c ∧ (k < N → p = ⟨g, k, none⟩) ∧ k ≤ N

/-- How the levels that came are like the first ones of the others, so that what follows decides. -/
def soFar (pre : List (Nat × List UInt8)) (G : List (List UInt8)) : Prop := ∀ r, coversL (pre.map (·.2) ++ r) G = coversL r (G.drop pre.length)
def decided (pre : List (Nat × List UInt8)) (G : List (List UInt8)) (b : Bool) : Prop := ∀ r, coversL (pre.map (·.2) ++ r) G = b
theorem soFar_nil (G : List (List UInt8)) : soFar [] G := fun r => by simp
theorem soFar_step {pre : List (Nat × List UInt8)} {G : List (List UInt8)} {x : Nat × List UInt8} {y : List UInt8} (h : soFar pre G) (hx : x.2 ≠ [35]) (hy : G[pre.length]? = some y) (ha : alikeZ x.2 y = true) : soFar (pre ++ [x]) G := fun r => by
  obtain ⟨h2, e2⟩ := List.getElem?_eq_some_iff.1 hy
  rw [List.map_append, List.append_assoc, h, List.length_append, List.drop_eq_getElem_cons h2, e2]
  show coversL (x.2 :: r) _ = _
  rw [coversL_cons hx, ha, Bool.true_and]; rfl
theorem decided_hash {pre : List (Nat × List UInt8)} {G : List (List UInt8)} {x : Nat × List UInt8} (h : soFar pre G) (hx : x.2 = [35]) : decided (pre ++ [x]) G true := fun r => by
  rw [List.map_append, List.append_assoc, h]
  show coversL (x.2 :: r) _ = _
  rw [hx, coversL_hash]
theorem decided_short {pre : List (Nat × List UInt8)} {G : List (List UInt8)} {x : Nat × List UInt8} (h : soFar pre G) (hx : x.2 ≠ [35]) (hl : G.length ≤ pre.length) : decided (pre ++ [x]) G false := fun r => by
  rw [List.map_append, List.append_assoc, h, List.drop_eq_nil_of_le hl]
  show coversL (x.2 :: r) _ = _
  rw [coversL_none hx]
theorem decided_unlike {pre : List (Nat × List UInt8)} {G : List (List UInt8)} {x : Nat × List UInt8} {y : List UInt8} (h : soFar pre G) (hx : x.2 ≠ [35]) (hy : G[pre.length]? = some y) (ha : alikeZ x.2 y = false) : decided (pre ++ [x]) G false := fun r => by
  obtain ⟨h2, e2⟩ := List.getElem?_eq_some_iff.1 hy
  rw [List.map_append, List.append_assoc, h, List.drop_eq_getElem_cons h2, e2]
  show coversL (x.2 :: r) _ = _
  rw [coversL_cons hx, ha, Bool.false_and]
theorem enum_map : ∀ (k : Nat) (L : List (List UInt8)), (enum k L).map (·.2) = L
  | _, [] => rfl
  | k, x :: r => by rw [enum, List.map_cons, enum_map (k + 1) r]
theorem soFar_all {F G : List (List UInt8)} (h : soFar (enum 0 F) G) : coversL F G = (G.drop F.length).isEmpty := by
  have := h []
  rwa [List.append_nil, enum_map, enum_length, coversL_nil] at this
theorem decided_prefix {F G : List (List UInt8)} {pre : List (Nat × List UInt8)} {b : Bool} (h : decided pre G b) (hp : pre <+: enum 0 F) : coversL F G = b := by
  obtain ⟨t, ht⟩ := hp
  have := h (t.map (·.2))
  rwa [← List.map_append, ht, enum_map] at this

theorem topic_Levels_cap (s : ByteArray) (w : World) (hs : s.size ≤ 1048576) :
    Calls Try.prog 27 #[.string s] w fun e w' => ∃ g cap, e = .returned (.slice (some ⟨g, 0, none⟩) (lv s.data.toList).length cap) ∧ w.heap.size ≤ g ∧ g < w'.heap.size ∧ (lv s.data.toList).length ≤ cap ∧
      (∀ (i : Nat) x, (lv s.data.toList)[i]? = some x → w'.cell? ⟨g, i, none⟩ = some (.string ⟨x.toArray⟩)) ∧ Below w.heap.size w w' := by
  refine (topic_Levels s w hs).mono ?_
  rintro e w1 ⟨v, rfl, hrow, hB⟩
  obtain ⟨g, cap, rfl, hg1, hg2, hc⟩ := RowOf.of_own hrow (lv_ne _)
  refine ⟨g, cap, rfl, hg1, hg2, ?_, hc, hB⟩
  rcases hrow.2 with ⟨h, _⟩ | ⟨g', cap', cur, h, _, _, hh⟩
  · cases h
  · cases h; exact hh.1

set_option maxRecDepth 100000 in
set_option maxHeartbeats 2000000 in
/-- match.levelsAlike. -/
theorem match_levelsAlike (a b : ByteArray) (w : World) (ha : a.size ≤ 1048576) (hb : b.size ≤ 1048576) :
    Calls Try.prog 48 #[.string a, .string b] w fun e w' => e = .returned (.bool (coversL (lv a.data.toList) (lv b.data.toList))) ∧ Below w.heap.size w w' := by
  have hbb := lv_bound b hb
  refine (callsIn_wide (n := 6)).1 ?_
  refine callsIn_of_wp_marks Try.func48 rfl trivial ?_ rfl
  simp only [Try.ntmps48, List.size_toArray, List.length_cons, List.length_nil, Nat.reduceAdd, Nat.reduceSub, Array.replicate_succ, Array.replicate_zero, List.push_toArray, List.append_toArray, List.nil_append, List.cons_append]
  gi_wp2_with fail
  refine ⟨trivial, (callsIn_wide.2 (topic_Levels_cap _ _ hb)).mono ?_⟩
  rintro e w1 ⟨g, cap, rfl, hg1, hg2, hcap, hc, h1⟩
  obtain ⟨F, HF⟩ : ∃ F, Hid (lv a.data.toList = F) := ⟨_, rfl⟩
  obtain ⟨G, HG⟩ : ∃ G, Hid (lv b.data.toList = G) := ⟨_, rfl⟩
  rw [HG.out] at hc hbb hcap ⊢
  have HC := Lib.hid hc
  clear hc
  gi_wp2_with fail
  refine ⟨trivial, (callsIn_wide.2 (topic_Each _ _)).mono ?_⟩
  rintro e w' ⟨rfl, rfl⟩
  gi_wp2_with fail
  obtain ⟨A, HA⟩ : ∃ A, Hid (w1.heap.size = A) := ⟨_, rfl⟩
  have bR0 := boxed_below (Boxed.new w 4 (.bool false)) h1 (by simp)
  have bR := (bR0.alloc (.cells #[.slice (some ⟨g, 0, none⟩) G.length cap] 22)).alloc (.cells #[.string a] 9)
  have bL := (Boxed.new w1 22 (.slice (some ⟨g, 0, none⟩) G.length cap)).alloc (.cells #[.string a] 9)
  have bN := Boxed.new (w1.alloc (.cells #[.slice (some ⟨g, 0, none⟩) G.length cap] 22)) 9 (.string a)
  rw [World.size_alloc] at bN
  have hsz1 : w.heap.size + 1 ≤ w1.heap.size := by have := h1.size; simp at this; omega
  have B1 : Below w.heap.size w w1 := ((Below.refl _ w).alloc (Nat.le_refl _) _).trans (h1.mono (by simp))
  have B0 := (B1.alloc B1.size (.cells #[.slice (some ⟨g, 0, none⟩) G.length cap] 22)).alloc (by simp; omega) (.cells #[.string a] 9)
  have HC0 : Hid (∀ (i : Nat) x, G[i]? = some x → ((w1.alloc (.cells #[.slice (some ⟨g, 0, none⟩) G.length cap] 22)).alloc (.cells #[.string a] 9)).cell? ⟨g, i, none⟩ = some (.string ⟨x.toArray⟩)) := fun i x hx => by
    rw [World.cell?_alloc_lt _ _ _ (by simp; omega), World.cell?_alloc_lt _ _ _ hg2]; exact HC.out i x hx
  obtain ⟨W0, HW0⟩ : ∃ W0, Hid (((w1.alloc (.cells #[.slice (some ⟨g, 0, none⟩) G.length cap] 22)).alloc (.cells #[.string a] 9)) = W0) := ⟨_, rfl⟩
  have hz0 : W0.heap.size = w1.heap.size + 2 := by rw [← HW0.out]; simp
  rw [HW0.out] at bR bL bN B0 HC0 ⊢
  rw [HA.out] at bL bN hz0 hg2 hsz1 ⊢
  clear HC HW0 B1 h1 bR0
  refine wpIn_rangeFunc_ownG rfl (by omega) (gf := 65) (lb := #[.pointer (some ⟨A + 1, 0, none⟩)]) rfl trivial (enters_of Try.func65 (by kernel_rfl) rfl)
    (topic_Each_stops (6 - 1) (by omega) (A + 1) a ha _ (by omega) bN.cell) walksK_t walksK_b (Below.refl _ _) (fun _ => rfl)
    (fun (pre : List (Nat × List UInt8)) W => ((∃ v, Boxed W A 22 v ∧ leftOf g G.length pre.length v) ∧ Hid (soFar pre G)) ∧ Below A W0 W)
    (fun c (pre : List (Nat × List UInt8)) W => ((∃ v, Boxed W w.heap.size 4 v ∧ ∃ d : Bool, v = .bool d ∧ Hid (decided pre G d)) ∧ c = .ret) ∧ Below w.heap.size w W)
    (OwnFrom.and (OwnFrom.and (Own.from (boxedEx_own A 22 (fun (pre : List (Nat × List UInt8)) v => leftOf g G.length pre.length v)) _) (fun _ _ _ _ hs _ _ => hs)) (ownFrom_below (by omega) (by omega)))
    (fun _ => OwnFrom.and (OwnFrom.and (Own.from (boxedEx_own w.heap.size 4 (fun (pre : List (Nat × List UInt8)) v => ∃ d : Bool, v = .bool d ∧ Hid (decided pre G d))) _) (fun _ _ _ _ hs _ _ => hs)) (ownFrom_below (Nat.le_refl _) (by omega)))
    ⟨⟨⟨_, bL, _, _, rfl, hcap, fun _ => rfl, Nat.zero_le _⟩, soFar_nil G⟩, Below.refl _ _⟩
    (fun x => { tmps := #[.string a, .string b, undef, undef, .pointer (some ⟨w.heap.size, 0, none⟩), .pointer (some ⟨A, 0, none⟩), undef, .string ⟨x.2.toArray⟩, .string b, .slice (some ⟨g, 0, none⟩) G.length cap, .string a, .func (.func 65) #[] #[.pointer (some ⟨A + 1, 0, none⟩)], .int .i64 (x.1 : Int), .string ⟨x.2.toArray⟩, undef, undef, undef, undef, undef, undef, undef, undef, undef, undef, undef, undef, undef, undef, undef, undef, undef, undef], defers := [] }) ?assign ?body ?done ?stop
  case assign =>
    intro l x W K hK
    gi_wp2
    exact hK
  case body =>
    rintro l pre x W ⟨⟨⟨v, hbL, p, c, rfl, hc, hp, hk⟩, HS⟩, hB⟩ hlt
    have hbR := boxed_below bR hB (by omega)
    have hcR := hbR.cell
    have hfR := hbR.frozen
    have hcL := hbL.cell
    have hfL := hbL.frozen
    obtain ⟨i, x⟩ := x
    have hBw := B0.trans (hB.mono (by omega))
    by_cases hx : x = [35]
    · have HX := Lib.hid hx
      have hx1 : (x == [35]) = true := by simp [hx]
      clear hx
      gi_wp2
      exact ⟨(KeepsOthers.setCell _ _ _).from _, ⟨⟨_, hbR.set _, _, rfl, decided_hash HS.out HX.out⟩, rfl⟩, hBw.setCell (p := ⟨w.heap.size, 0, none⟩) (Nat.le_refl _) _⟩
    · have HX := Lib.hid hx
      have hx1 : (x == [35]) = false := by simpa using hx
      clear hx
      by_cases hke : pre.length < G.length
      · obtain ⟨y, HY⟩ : ∃ y, Hid (G[pre.length]? = some y) := ⟨G[pre.length], List.getElem?_eq_getElem hke⟩
        obtain rfl := hp hke
        have hcy := (hB.cell (p := ⟨g, pre.length, none⟩) (by simp; omega)).trans (HC0.out pre.length y HY.out)
        have hne : ((((G.length - pre.length : Nat) : Int)) == 0) = false := by rw [beq_eq_false_iff_ne]; omega
        gi_wp2_with fail
        refine ⟨trivial, (CallsIn.inRound l (callsIn_wide.2 (match_levelAlike x y _))).mono ?_⟩
        rintro e w' ⟨rfl, rfl⟩
        cases hal : alikeZ x y
        · have HL := Lib.hid hal
          clear hal
          gi_wp2
          exact ⟨(KeepsOthers.setCell _ _ _).from _, ⟨⟨_, hbR.set _, _, rfl, decided_unlike HS.out HX.out HY.out HL.out⟩, rfl⟩, hBw.setCell (p := ⟨w.heap.size, 0, none⟩) (Nat.le_refl _) _⟩
        · have HL := Lib.hid hal
          clear hal
          have h1n : 1 ≤ G.length - pre.length := by omega
          gi_wp2
          · refine ⟨(KeepsOthers.setCell _ _ _).from _, KeepsWalks.setCell _ _ _, ⟨⟨_, hbL.set _, ?_⟩, soFar_step HS.out HX.out HY.out HL.out⟩, hB.setCell (p := ⟨A, 0, none⟩) (Nat.le_refl _) _⟩
            rw [List.length_append]
            exact ⟨⟨g, pre.length, none⟩, 0, by simp [Nat.sub_sub], by simp; omega, fun h => by simp at h; omega, by simp; omega⟩
          · refine ⟨(KeepsOthers.setCell _ _ _).from _, KeepsWalks.setCell _ _ _, ⟨⟨_, hbL.set _, ?_⟩, soFar_step HS.out HX.out HY.out HL.out⟩, hB.setCell (p := ⟨A, 0, none⟩) (Nat.le_refl _) _⟩
            rw [List.length_append]
            exact ⟨⟨g, pre.length + 1, none⟩, c - 1, by simp [Nat.sub_sub], by simp; omega, fun _ => by simp, by simp; omega⟩
      · rw [show G.length - pre.length = 0 by omega] at hcL
        gi_wp2
        refine ⟨trivial, ?_⟩
        gi_wp2
        exact ⟨(KeepsOthers.setCell _ _ _).from _, ⟨⟨_, hbR.set _, _, rfl, decided_short HS.out HX.out (by omega)⟩, rfl⟩, hBw.setCell (p := ⟨w.heap.size, 0, none⟩) (Nat.le_refl _) _⟩
  case done =>
    rintro D ys W hD rfl ⟨⟨⟨v, hbL, p, c, rfl, hc, hp, hk⟩, HS⟩, hB⟩ hK
    have hbR := boxed_below bR hB (by omega)
    have hcR := hbR.cell
    have hfR := hbR.frozen
    have hcL := hbL.cell
    have hBw := B0.trans (hB.mono (by omega))
    gi_wp2
    have hK' := (KeepsOthers.setCell W ⟨w.heap.size, 0, none⟩ (.bool ((((G.length - (enum 0 (lv a.data.toList)).length : Nat) : Int)) == 0))).same D _ hK rfl
    refine ⟨by simp, .inl ⟨_, _, rfl, run_takeDeferred hK', ?_⟩⟩
    have hc5 := cell_kept (hbR.set (.bool ((((G.length - (enum 0 (lv a.data.toList)).length : Nat) : Int)) == 0))).cell (grownBy_putObj' _ D (.deferred none)) (fun r e => by cases e; exact ⟨_, hK', rfl⟩)
    refine ⟨.bool ((((G.length - (enum 0 (lv a.data.toList)).length : Nat) : Int)) == 0), ?_, ?_, (hBw.setCell (p := ⟨w.heap.size, 0, none⟩) (Nat.le_refl _) _).trans (belowK_b (w := w) (Nat.le_refl _) _ D _ _ (by omega) hK' rfl rfl)⟩
    · simp [results, Try.f48, go_sem, hc5]
    · have e := soFar_all HS.out
      rw [HG.out, e, enum_length]
      congr 2
      rw [Bool.eq_iff_iff, List.isEmpty_iff, List.drop_eq_nil_iff, beq_iff_eq]
      omega
  case stop =>
    rintro D c pre W hD hpre ⟨⟨⟨v, hbR, d, rfl, HD⟩, rfl⟩, hB⟩ hK
    gi_wp2
    refine ⟨by simp, .inl ⟨_, _, rfl, run_takeDeferred hK, ?_⟩⟩
    have hc5 := cell_kept hbR.cell (grownBy_putObj' _ D (.deferred none)) (fun r e => by cases e; exact ⟨_, hK, rfl⟩)
    refine ⟨.bool d, ?_, ?_, hB.trans (belowK_b (w := w) (Nat.le_refl _) _ D _ _ (by omega) hK rfl rfl)⟩
    · simp [results, Try.f48, go_sem, hc5]
    · rw [HG.out, decided_prefix HD.out hpre]

theorem size_of_bytes {s : ByteArray} (h : bytesOk s.data.toList = true) : 1 ≤ s.size ∧ s.size ≤ 32 := by
  have := bytesOk_len h; rwa [← Lib.size_eq] at this

set_option maxHeartbeats 1000000 in
/-- match.Covers. -/
theorem match_Covers (a b : ByteArray) (w : World) :
    Calls Try.prog 30 #[.string a, .string b] w fun e w' => e = .returned (.bool (coversZ a.data.toList b.data.toList)) ∧ Below w.heap.size w w' := by
  cases hfa : filterZ a.data.toList
  · have H := Lib.hid (show coversZ a.data.toList b.data.toList = false by unfold coversZ; rw [hfa]; rfl)
    have HA := Lib.hid hfa
    clear hfa
    go_enter Try.func30, Try.ntmps30
    go_wp2_with fail
    refine (topic_Filter _ _).mono ?_
    rintro e w1 ⟨rfl, h1⟩
    rw [HA.out]
    go_wp2
    go_ret
    exact ⟨by rw [H.out]; rfl, h1⟩
  · cases hfb : filterZ b.data.toList
    · have H := Lib.hid (show coversZ a.data.toList b.data.toList = false by unfold coversZ; rw [hfb]; simp)
      have HA := Lib.hid hfa
      have HB := Lib.hid hfb
      clear hfa hfb
      go_enter Try.func30, Try.ntmps30
      go_wp2_with fail
      refine (topic_Filter _ _).mono ?_
      rintro e w1 ⟨rfl, h1⟩
      rw [HA.out]
      go_wp2_with fail
      refine (topic_Filter _ _).mono ?_
      rintro e w2 ⟨rfl, h2⟩
      rw [HB.out]
      go_wp2
      go_ret
      exact ⟨by rw [H.out]; rfl, below_step h1 h2⟩
    · have ha := (size_of_bytes (filterZ_bytes hfa)).2
      have hb := (size_of_bytes (filterZ_bytes hfb)).2
      have HA := Lib.hid hfa
      have HB := Lib.hid hfb
      cases hw : wildZ a.data.toList
      · have H := Lib.hid (show coversZ a.data.toList b.data.toList = coversL (lv a.data.toList) (lv b.data.toList) by unfold coversZ; rw [hfa, hfb, hw]; simp)
        have HW := Lib.hid hw
        clear hfa hfb hw
        go_enter Try.func30, Try.ntmps30
        go_wp2_with fail
        refine (topic_Filter _ _).mono ?_
        rintro e w1 ⟨rfl, h1⟩
        rw [HA.out]
        go_wp2_with fail
        refine (topic_Filter _ _).mono ?_
        rintro e w2 ⟨rfl, h2⟩
        rw [HB.out]
        go_wp2_with fail
        refine (topic_Wild _ _ (by omega)).mono ?_
        rintro e w3 ⟨rfl, h3⟩
        rw [HW.out]
        go_wp2_with fail
        refine (match_levelsAlike _ _ _ (by omega) (by omega)).mono ?_
        rintro e w4 ⟨rfl, h4⟩
        go_wp2
        go_ret
        exact ⟨by rw [H.out]; rfl, below_step (below_step (below_step h1 h2) h3) h4⟩
      · cases hp : apartZ b.data.toList
        · have H := Lib.hid (show coversZ a.data.toList b.data.toList = coversL (lv a.data.toList) (lv b.data.toList) by unfold coversZ; rw [hfa, hfb, hp]; simp)
          have HW := Lib.hid hw
          have HP := Lib.hid (show (b.data.toList.head? == some 36) = false from hp)
          clear hfa hfb hw hp
          go_enter Try.func30, Try.ntmps30
          go_wp2_with fail
          refine (topic_Filter _ _).mono ?_
          rintro e w1 ⟨rfl, h1⟩
          rw [HA.out]
          go_wp2_with fail
          refine (topic_Filter _ _).mono ?_
          rintro e w2 ⟨rfl, h2⟩
          rw [HB.out]
          go_wp2_with fail
          refine (topic_Wild _ _ (by omega)).mono ?_
          rintro e w3 ⟨rfl, h3⟩
          rw [HW.out]
          go_wp2_with fail
          refine (strings_HasPrefix _ _ _).mono ?_
          rintro e w' ⟨rfl, rfl⟩
          rw [HP.out]
          go_wp2_with fail
          refine (match_levelsAlike _ _ _ (by omega) (by omega)).mono ?_
          rintro e w4 ⟨rfl, h4⟩
          go_wp2
          go_ret
          exact ⟨by rw [H.out]; rfl, below_step (below_step (below_step h1 h2) h3) h4⟩
        · have H := Lib.hid (show coversZ a.data.toList b.data.toList = false by unfold coversZ; rw [hw, hp]; simp)
          have HW := Lib.hid hw
          have HP := Lib.hid (show (b.data.toList.head? == some 36) = true from hp)
          clear hfa hfb hw hp
          go_enter Try.func30, Try.ntmps30
          go_wp2_with fail
          refine (topic_Filter _ _).mono ?_
          rintro e w1 ⟨rfl, h1⟩
          rw [HA.out]
          go_wp2_with fail
          refine (topic_Filter _ _).mono ?_
          rintro e w2 ⟨rfl, h2⟩
          rw [HB.out]
          go_wp2_with fail
          refine (topic_Wild _ _ (by omega)).mono ?_
          rintro e w3 ⟨rfl, h3⟩
          rw [HW.out]
          go_wp2_with fail
          refine (strings_HasPrefix _ _ _).mono ?_
          rintro e w' ⟨rfl, rfl⟩
          rw [HP.out]
          go_wp2
          go_ret
          exact ⟨by rw [H.out]; rfl, below_step (below_step h1 h2) h3⟩

/-- A slice, of an argument or not, has just these texts. -/
def TextsIn (W : World) (a : Option Addr) (L : List (List UInt8)) : Prop := ∀ (i : Nat) x, L[i]? = some x → ∃ b off, a = some ⟨b, off, none⟩ ∧ b < W.heap.size ∧ W.cell? ⟨b, off + i, none⟩ = some (strV x)
theorem TextsIn.below {W W' : World} {a : Option Addr} {L : List (List UInt8)} (h : TextsIn W a L) (hb : Below W.heap.size W W') : TextsIn W' a L := fun i x hx => by
  obtain ⟨b, off, ha, hlt, hc⟩ := h i x hx
  exact ⟨b, off, ha, Nat.lt_of_lt_of_le hlt hb.size, (hb.cell (p := ⟨b, off + i, none⟩) hlt).trans hc⟩

theorem any_take_step {α : Type} (p : α → Bool) (L : List α) (k : Nat) (x : α) (hx : L[k]? = some x) (h0 : (L.take k).any p = false) (h1 : p x = false) : (L.take (k + 1)).any p = false := by
  obtain ⟨hk, e⟩ := List.getElem?_eq_some_iff.1 hx
  rw [List.take_succ_eq_append_getElem hk, List.any_append, h0, e]; simp [h1]
theorem any_at {α : Type} (p : α → Bool) (L : List α) (k : Nat) (x : α) (hx : L[k]? = some x) (h1 : p x = true) : L.any p = true :=
  List.any_eq_true.2 ⟨x, List.mem_of_getElem? hx, h1⟩

end Go.Proofs.Ytabgedmocdjkcaa
