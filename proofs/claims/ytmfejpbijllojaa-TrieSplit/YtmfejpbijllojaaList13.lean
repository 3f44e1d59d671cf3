/- The law's own 'list' of layer 13. -/
import Derived.Test.YtmfejpbijllojaaList3
namespace Go.Proofs.Ytmfejpbijllojaa
open Go.RowKit Go.Shelf

attribute [local go_sem] Oper.semAt_some
set_option maxRecDepth 100000 in
set_option maxHeartbeats 2000000 in
theorem list13 (v : Value) (L : List Int) (w : World) (h : SetIn w v L) (hbig : L.length ≤ 2000) :
    Calls Try.prog 17 #[v] w fun e w' => ∃ r, e = .returned r ∧ NumsIn w' r L ∧ Below w.heap.size w w' := by
  obtain ⟨i0, hi, hz0, hz1, hz2⟩ := info_parts infoInt
  obtain ⟨⟨s, rfl, hs⟩, hu⟩ := h
  have hl := hs.lies
  have hform : ∃ a n c, s = .slice a n c := by
    rcases hs.2 with ⟨rfl, h0⟩ | ⟨b, off, cap, rfl, _, _, hc⟩
    · exact ⟨_, _, _, rfl⟩
    · exact ⟨_, _, _, rfl⟩
  have HS := Lib.hid hs
  have HLi := Lib.hid hl
  have hnil : ∀ (W : World) (p : Array Value), Sem.run Try.prog (binOp BinOp.eql 59 (Value.func (Fn.func 50) #[] p) Value.nilFunc) W = .ok (.bool false) W := fun _ _ => by kernel_rfl
  clear hs hu hl
  obtain ⟨a, n, c, rfl⟩ := hform
  refine (callsIn_wide (n := 6)).1 ?_
  refine callsIn_of_wp_marks Try.func17 rfl trivial ?_ rfl
  simp only [Try.ntmps17, List.size_toArray, List.length_cons, List.length_nil, Nat.reduceAdd, Nat.reduceSub, Array.replicate_succ, Array.replicate_zero, List.push_toArray, List.append_toArray, List.nil_append, List.cons_append]
  gi_wp2_with fail
  obtain ⟨W1, hW1, B1, z1, b1⟩ := twoB w (.cells #[.slice a n c] 43) (.slice none 0 0) 40
  rw [hW1]
  refine ⟨trivial, (callsIn_wide.2 (set_All _ L _ (HS.out.below (B1.alloc B1.size _)))).mono ?_⟩
  rintro e w' ⟨rfl, rfl⟩
  clear hW1
  rw [World.size_alloc, z1]
  gi_wp2_with fail
  have b2 := Boxed.new W1 40 (.slice none 0 0)
  have b3 := Boxed.new (W1.alloc (.cells #[.slice none 0 0] 40)) 43 (.slice a n c)
  rw [z1] at b2
  rw [World.size_alloc, z1] at b3
  have hB0 : Below (w.heap.size + 2) W1 ((W1.alloc (.cells #[.slice none 0 0] 40)).alloc (.cells #[.slice a n c] 43)) := ((Below.refl _ W1).alloc (by omega) _).alloc (by simp; omega) _
  have hli : Hid (LiesIn ((W1.alloc (.cells #[.slice none 0 0] 40)).alloc (.cells #[.slice a n c] 43)) (w.heap.size + 2) (.slice a n c) L) := by
    have h1 := HLi.out.below B1
    exact (h1.mono (by omega)).below hB0
  refine wpIn_rangeFunc_ownG rfl (by omega) (gf := 50) (lb := #[.pointer (some ⟨w.heap.size + 2 + 1, 0, none⟩)]) rfl trivial (enters_of Try.func50 (by kernel_rfl) rfl)
    (set_All_stops (6 - 1) (by omega) (w.heap.size + 2 + 1) (w.heap.size + 2) (.slice a n c) L (by omega) _ (by simp; omega) (by simp; omega) b3.cell hli.out) belowK_t (belowK_b (by simp; omega)) (Below.refl _ _) (fun _ => rfl)
    (fun (pre : List Int) W => (∃ v, Boxed W (w.heap.size + 2) 40 v ∧ W.ownsRow (w.heap.size + 2) 3 1 v pre.length (pre.map numV) ∧ True) ∧ Below (w.heap.size + 2) W1 W)
    (fun _ _ _ => False)
    (OwnFrom.and (Own.from (holdsRow_own (w.heap.size + 2) (w.heap.size + 2) 40 3 1 (fun pre : List Int => pre.length) (fun pre => pre.map numV) (fun _ _ => True)) _) (ownFrom_below (by omega) (by simp; omega)))
    (fun _ _ _ _ _ hs _ _ => hs)
    ⟨⟨_, b2.alloc _, World.ownsRow_nil _ _ _ _, trivial⟩, hB0⟩
    (fun x => { tmps := #[.agg #[.slice a n c], .pointer (some ⟨w.heap.size, 0, none⟩), .pointer (some ⟨w.heap.size + 1, 0, none⟩), .pointer (some ⟨w.heap.size + 1 + 1, 0, none⟩), .func (.func 50) #[] #[.pointer (some ⟨w.heap.size + 2 + 1, 0, none⟩)], .int .i64 x, .agg #[.slice a n c], .func (.func 50) #[] #[.pointer (some ⟨w.heap.size + 2 + 1, 0, none⟩)], .func (.func 50) #[] #[.pointer (some ⟨w.heap.size + 2 + 1, 0, none⟩)], .bool false, undef, .func (.func 50) #[] #[.pointer (some ⟨w.heap.size + 2 + 1, 0, none⟩)], .int .i64 x, undef, undef, undef, undef, undef, undef, undef, undef, undef], defers := [] }) ?assign ?body ?done ?stop
  case assign =>
    intro l x W K hK
    gi_wp2
    exact hK
  case body =>
    rintro l pre x W ⟨⟨v, hv, hrow, _⟩, hB⟩ hlt
    have hc := hv.cell
    have hbs := hB.size
    have hlen : ¬ (2000 < pre.length + 1) := by omega
    gi_wp2_with (gi_at_builtin; refine wpListIn_append_own _ rfl _ _ 40 rfl (w.heap.size + 2) 3 i0 (.int .i64 0) 1 8 Try.underlying40 hi hz0 hz1 hz2 rfl (by decide) _ _ _ rfl (hrow.alloc _) ⟨W.heap.size, 0, none⟩ 1 1 [.int .i64 x] rfl rfl (cell_one_new _ _ _) (by simp [Value.oneCell']) (by simp only [maxLen]; omega) (by omega) (by simp; omega) ?_; intro v' w1 hown' hgrow _; obtain ⟨g', cap', rfl⟩ := ownsRow_succ hown'; obtain ⟨hv1, hv2, hr2, hk2, hb2⟩ := hv.appended (by decide) hrow (by omega) (Nat.le_refl _) hown' hgrow; have hc1 := hv1.cell; have hf1 := hv1.frozen)
    refine ⟨hk2.from _, hb2, ⟨_, hv2, ?_, trivial⟩, hB.trans hb2⟩
    rw [List.length_append, List.map_append]; exact hr2
  case done =>
    rintro D ys W hD rfl ⟨⟨v, hv, hrow, _⟩, hB⟩ hK
    have hc := hv.cell
    have hb1 := boxed_below b1 hB (by omega)
    have c1 := hb1.cell
    have f1 := hb1.frozen
    have hD : w.heap.size + 2 ≤ D := by simp at hD; omega
    rcases hrow.2 with ⟨rfl, h0⟩ | ⟨g, cap, cur, rfl, hbase, hg, h1, h2, h3, h4⟩
    all_goals
      have RW := Lib.hid hrow
      clear hrow
      gi_wp2
      have hK' : ∀ u, (W.setCell ⟨w.heap.size + 1, 0, none⟩ u).heap[D]? = some (.deferred (some [])) := fun u => (KeepsOthers.setCell W ⟨w.heap.size + 1, 0, none⟩ u).same D _ hK rfl
      refine ⟨by simp, .inl ⟨_, _, rfl, run_takeDeferred (hK' _), ?_⟩⟩
      have k1 : ∀ u, ((W.setCell ⟨w.heap.size + 1, 0, none⟩ u).putObj D (.deferred none)).cell? ⟨w.heap.size + 1, 0, none⟩ = some u := fun u => cell_kept (hb1.set u).cell (grownBy_putObj' _ D (.deferred none)) (fun r e => by cases e; exact ⟨_, hK' u, rfl⟩)
      refine ⟨_, ?_, _, rfl, (own_setCell RW.out ⟨w.heap.size + 1, 0, none⟩ _ (by show w.heap.size + 1 < w.heap.size + 2; omega)).putObj (.deferred none) (hK' _) rfl, (B1.trans (hB.mono (by omega))).trans (((Below.refl w.heap.size W).setCell (p := ⟨w.heap.size + 1, 0, none⟩) (by show w.heap.size ≤ w.heap.size + 1; omega) _).trans (belowK_b (w := w) (Nat.le_refl _) _ D _ _ (by omega) (hK' _) rfl rfl))⟩
      simp [results, Try.f17, go_sem, k1]
  case stop =>
    rintro D c pre W _ _ h _
    exact h.elim

end Go.Proofs.Ytmfejpbijllojaa
