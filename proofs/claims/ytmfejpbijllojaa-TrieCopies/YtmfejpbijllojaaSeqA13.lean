/- The library's slices.AppendSeq of numbers, of what a set's All tells. -/
import Derived.Test.YtmfejpbijllojaaList3
namespace Go.Proofs.Ytmfejpbijllojaa
open Go.RowKit Go.Shelf

attribute [local go_sem] Oper.semAt_some
set_option maxRecDepth 100000 in
set_option maxHeartbeats 2000000 in
theorem seq_app (base Bn : Nat) (v s : Value) (A L : List Int) (w : World) (hrow : w.ownsRow base 3 1 v A.length (A.map numV)) (hb : base ≤ w.heap.size) (hBn : Bn < w.heap.size) (hc : w.cell? ⟨Bn, 0, none⟩ = some s) (hs : LiesIn w base s L) (hbig : A.length + L.length ≤ 1000000) :
    Calls Try.prog 56 #[v, .func (.func 50) #[] #[.pointer (some ⟨Bn, 0, none⟩)]] w fun e w' => ∃ v', e = .returned v' ∧ w'.ownsRow base 3 1 v' (A ++ L).length ((A ++ L).map numV) ∧ Below base w w' := by
  obtain ⟨i0, hi, hz0, hz1, hz2⟩ := info_parts infoInt
  have hform : ∃ a n c, v = .slice a n c := by
    obtain ⟨_, ⟨rfl, _⟩ | ⟨g, cap, _, rfl, _⟩⟩ := hrow
    · exact ⟨_, _, _, rfl⟩
    · exact ⟨_, _, _, rfl⟩
  have HR := Lib.hid hrow
  have HC := Lib.hid hc
  have HLi := Lib.hid hs
  clear hrow hc hs
  obtain ⟨a, n, c, rfl⟩ := hform
  refine (callsIn_wide (n := 6)).1 ?_
  refine callsIn_of_wp_marks Try.func56 rfl trivial ?_ rfl
  simp only [Try.ntmps56, List.size_toArray, List.length_cons, List.length_nil, Nat.reduceAdd, Nat.reduceSub, Array.replicate_succ, Array.replicate_zero, List.push_toArray, List.append_toArray, List.nil_append, List.cons_append]
  gi_wp2_with fail
  have b1 := Boxed.new w 40 (.slice a n c)
  have B1 : Below base w (w.alloc (.cells #[.slice a n c] 40)) := (Below.refl _ w).alloc hb _
  have z1 : (w.alloc (.cells #[.slice a n c] 40)).heap.size = w.heap.size + 1 := by simp
  have HC1 : Hid ((w.alloc (.cells #[.slice a n c] 40)).cell? ⟨Bn, 0, none⟩ = some s) := Lib.hid (by rw [World.cell?_alloc_lt _ _ _ hBn]; exact HC.out)
  have HL1 : Hid (LiesIn (w.alloc (.cells #[.slice a n c] 40)) base s L) := Lib.hid (HLi.out.below B1)
  have HR1 : Hid ((w.alloc (.cells #[.slice a n c] 40)).ownsRow base 3 1 (.slice a n c) A.length (A.map numV)) := Lib.hid (HR.out.alloc _)
  refine wpIn_rangeFunc_ownG rfl (by omega) (gf := 50) (lb := #[.pointer (some ⟨Bn, 0, none⟩)]) rfl trivial (enters_of Try.func50 (by kernel_rfl) rfl)
    (set_All_stops (6 - 1) (by omega) Bn base s L (by omega) _ (by omega) (by omega) HC1.out HL1.out) belowK_t (belowK_b (by omega)) (Below.refl _ _) (fun _ => rfl)
    (fun (pre : List Int) W => (∃ v, Boxed W w.heap.size 40 v ∧ W.ownsRow base 3 1 v (A.length + pre.length) ((A ++ pre).map numV) ∧ True) ∧ Below base w W)
    (fun _ _ _ => False)
    (OwnFrom.and (Own.from (holdsRow_own base w.heap.size 40 3 1 (fun pre : List Int => A.length + pre.length) (fun pre => (A ++ pre).map numV) (fun _ _ => True)) _) (ownFrom_below (by omega) (by omega)))
    (fun _ _ _ _ _ hs _ _ => hs)
    ⟨⟨_, b1, by rw [List.append_nil]; exact HR1.out, trivial⟩, B1⟩
    (fun x => { tmps := #[.slice a n c, .func (.func 50) #[] #[.pointer (some ⟨Bn, 0, none⟩)], .pointer (some ⟨w.heap.size, 0, none⟩), undef, .slice none 0 0, .int .i64 x, .func (.func 50) #[] #[.pointer (some ⟨Bn, 0, none⟩)], .int .i64 x, undef, undef, undef, undef, undef], defers := [] }) ?assign ?body ?done ?stop
  case assign =>
    intro l x W K hK
    gi_wp2
    exact hK
  case body =>
    rintro l pre x W ⟨⟨v, hv, hrow, _⟩, hB⟩ hlt
    have hc := hv.cell
    have hbs := hB.size
    gi_wp2_with (gi_at_builtin; refine wpListIn_append_own _ rfl _ _ 40 rfl base 3 i0 (.int .i64 0) 1 8 Try.underlying40 hi hz0 hz1 hz2 rfl (by decide) _ _ _ rfl (hrow.alloc _) ⟨W.heap.size, 0, none⟩ 1 1 [.int .i64 x] rfl rfl (cell_one_new _ _ _) (by simp [Value.oneCell']) (by simp only [maxLen]; omega) (by omega) (by simp; omega) ?_; intro v' w1 hown' hgrow _; obtain ⟨g', cap', rfl⟩ := ownsRow_succ hown'; obtain ⟨hv1, hv2, hr2, hk2, hb2⟩ := hv.appended (by decide) hrow (by omega) hb hown' hgrow; have hc1 := hv1.cell; have hf1 := hv1.frozen)
    refine ⟨hk2.from _, hb2, ⟨_, hv2, ?_, trivial⟩, hB.trans hb2⟩
    rw [List.length_append, ← List.append_assoc, List.map_append]; exact hr2
  case done =>
    rintro D ys W hD rfl ⟨⟨v, hv, hrow, _⟩, hB⟩ hK
    have hc := hv.cell
    have hD' : w.heap.size + 1 ≤ D := by omega
    gi_wp2
    refine ⟨by simp, .inl ⟨_, _, rfl, run_takeDeferred hK, ?_⟩⟩
    refine ⟨_, results_tmp rfl _ _ _, _, rfl, ?_, hB.trans (belowK_b (w := w) hb W D _ _ (by omega) hK rfl rfl)⟩
    rw [List.length_append]
    exact ownsRow_putObj hrow (.deferred none) hK rfl
  case stop =>
    rintro D c pre W _ _ h _
    exact h.elim
end Go.Proofs.Ytmfejpbijllojaa
