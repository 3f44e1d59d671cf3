/- The library's slices.AppendSeq of numbers, of what a set's All tells. · The law's own 'list' of layer 13. · Layer 13: a node's subscribers as its block has them (so that they lie where the node lies), in worlds where other blocks have turned. -/
import Derived.Test.YtmfejpbijllojaaGreatList3
import Derived.Test.YtmfejpbijllojaaGreatTrieI13
namespace Go.Proofs.YtmfejpbijllojaaGreat
open Go.RowKit Go.Shelf

attribute [local go_sem] Oper.semAt_some
set_option maxRecDepth 100000 in
set_option maxHeartbeats 2000000 in
theorem seq_app (base Bn : Nat) (v s : Value) (A L : List Int) (w : World) (hrow : w.ownsRow base 3 1 v A.length (A.map numV)) (hb : base ≤ w.heap.size) (hBn : Bn < w.heap.size) (hc : w.cell? ⟨Bn, 0, none⟩ = some s) (hs : LiesIn w base s L) (hbig : A.length + L.length ≤ 1000000) :
    Calls Tryz.prog 61 #[v, .func (.func 55) #[] #[.pointer (some ⟨Bn, 0, none⟩)]] w fun e w' => ∃ v', e = .returned v' ∧ w'.ownsRow base 3 1 v' (A ++ L).length ((A ++ L).map numV) ∧ Below base w w' := by
  obtain ⟨i0, hi, hz0, hz1, hz2⟩ := info_parts infoInt
  have hform : ∃ a n c, v = .slice a n c := by
    obtain ⟨_, ⟨rfl, _⟩ | ⟨g, cap, _, rfl, _⟩⟩ := hrow
    · exact ⟨_, _, _, rfl⟩
    · exact ⟨_, _, _, rfl⟩
  have HR := Lib.hid hrow
  have HC := Lib.hid hc
  have HLi := Lib.hid hs
  clear hrow hc hs
  obtain ⟨a, n, c, rfl⟩ := hform
  refine (callsIn_wide (n := 6)).1 ?_
  refine callsIn_of_wp_marks Tryz.func61 rfl trivial ?_ rfl
  simp only [Tryz.ntmps61, List.size_toArray, List.length_cons, List.length_nil, Nat.reduceAdd, Nat.reduceSub, Array.replicate_succ, Array.replicate_zero, List.push_toArray, List.append_toArray, List.nil_append, List.cons_append]
  gi_wp2_with fail
  have b1 := Boxed.new w 30 (.slice a n c)
  have B1 : Below base w (w.alloc (.cells #[.slice a n c] 30)) := (Below.refl _ w).alloc hb _
  have z1 : (w.alloc (.cells #[.slice a n c] 30)).heap.size = w.heap.size + 1 := by simp
  have HC1 : Hid ((w.alloc (.cells #[.slice a n c] 30)).cell? ⟨Bn, 0, none⟩ = some s) := Lib.hid (by rw [World.cell?_alloc_lt _ _ _ hBn]; exact HC.out)
  have HL1 : Hid (LiesIn (w.alloc (.cells #[.slice a n c] 30)) base s L) := Lib.hid (HLi.out.below B1)
  have HR1 : Hid ((w.alloc (.cells #[.slice a n c] 30)).ownsRow base 3 1 (.slice a n c) A.length (A.map numV)) := Lib.hid (HR.out.alloc _)
  refine wpIn_rangeFunc_ownG rfl (by omega) (gf := 55) (lb := #[.pointer (some ⟨Bn, 0, none⟩)]) rfl trivial (enters_of Tryz.func55 (by kernel_rfl) rfl)
    (set_All_stops (6 - 1) (by omega) Bn base s L (by omega) _ (by omega) (by omega) HC1.out HL1.out) belowK_t (belowK_b (by omega)) (Below.refl _ _) (fun _ => rfl)
    (fun (pre : List Int) W => (∃ v, Boxed W w.heap.size 30 v ∧ W.ownsRow base 3 1 v (A.length + pre.length) ((A ++ pre).map numV) ∧ True) ∧ Below base w W)
    (fun _ _ _ => False)
    (OwnFrom.and (Own.from (holdsRow_own base w.heap.size 30 3 1 (fun pre : List Int => A.length + pre.length) (fun pre => (A ++ pre).map numV) (fun _ _ => True)) _) (ownFrom_below (by omega) (by omega)))
    (fun _ _ _ _ _ hs _ _ => hs)
    ⟨⟨_, b1, by rw [List.append_nil]; exact HR1.out, trivial⟩, B1⟩
    (fun x => { tmps := #[.slice a n c, .func (.func 55) #[] #[.pointer (some ⟨Bn, 0, none⟩)], .pointer (some ⟨w.heap.size, 0, none⟩), undef, .slice none 0 0, .int .i64 x, .func (.func 55) #[] #[.pointer (some ⟨Bn, 0, none⟩)], .int .i64 x, undef, undef, undef, undef, undef], defers := [] }) ?assign ?body ?done ?stop
  case assign =>
    intro l x W K hK
    gi_wp2
    exact hK
  case body =>
    rintro l pre x W ⟨⟨v, hv, hrow, _⟩, hB⟩ hlt
    have hc := hv.cell
    have hbs := hB.size
    gi_wp2_with (gi_at_builtin; refine wpListIn_append_own _ rfl _ _ 30 rfl base 3 i0 (.int .i64 0) 1 8 Tryz.underlying30 hi hz0 hz1 hz2 rfl (by decide) _ _ _ rfl (hrow.alloc _) ⟨W.heap.size, 0, none⟩ 1 1 [.int .i64 x] rfl rfl (cell_one_new _ _ _) (by simp [Value.oneCell']) (by simp only [maxLen]; omega) (by omega) (by simp; omega) ?_; intro v' w1 hown' hgrow _; obtain ⟨g', cap', rfl⟩ := ownsRow_succ hown'; obtain ⟨hv1, hv2, hr2, hk2, hb2⟩ := hv.appended (by decide) hrow (by omega) hb hown' hgrow; have hc1 := hv1.cell; have hf1 := hv1.frozen)
    refine ⟨hk2.from _, hb2, ⟨_, hv2, ?_, trivial⟩, hB.trans hb2⟩
    rw [List.length_append, ← List.append_assoc, List.map_append]; exact hr2
  case done =>
    rintro D ys W hD rfl ⟨⟨v, hv, hrow, _⟩, hB⟩ hK
    have hc := hv.cell
    have hD' : w.heap.size + 1 ≤ D := by omega
    gi_wp2
    refine ⟨by simp, .inl ⟨_, _, rfl, run_takeDeferred hK, ?_⟩⟩
    refine ⟨_, results_tmp rfl _ _ _, _, rfl, ?_, hB.trans (belowK_b (w := w) hb W D _ _ (by omega) hK rfl rfl)⟩
    rw [List.length_append]
    exact ownsRow_putObj hrow (.deferred none) hK rfl
  case stop =>
    rintro D c pre W _ _ h _
    exact h.elim
end Go.Proofs.YtmfejpbijllojaaGreat

namespace Go.Proofs.YtmfejpbijllojaaGreat
open Go.RowKit Go.Shelf

attribute [local go_sem] Oper.semAt_some
set_option maxRecDepth 100000 in
set_option maxHeartbeats 2000000 in
theorem list13 (v : Value) (L : List Int) (w : World) (h : SetIn w v L) (hbig : L.length ≤ 2000) :
    Calls Tryz.prog 17 #[v] w fun e w' => ∃ r, e = .returned r ∧ NumsIn w' r L ∧ Below w.heap.size w w' := by
  obtain ⟨i0, hi, hz0, hz1, hz2⟩ := info_parts infoInt
  obtain ⟨⟨s, rfl, hs⟩, hu⟩ := h
  have hl := hs.lies
  have hform : ∃ a n c, s = .slice a n c := by
    rcases hs.2 with ⟨rfl, h0⟩ | ⟨b, off, cap, rfl, _, _, hc⟩
    · exact ⟨_, _, _, rfl⟩
    · exact ⟨_, _, _, rfl⟩
  have HS := Lib.hid hs
  have HLi := Lib.hid hl
  have hnil : ∀ (W : World) (p : Array Value), Sem.run Tryz.prog (binOp BinOp.eql 64 (Value.func (Fn.func 55) #[] p) Value.nilFunc) W = .ok (.bool false) W := fun _ _ => by kernel_rfl
  clear hs hu hl
  obtain ⟨a, n, c, rfl⟩ := hform
  refine (callsIn_wide (n := 6)).1 ?_
  refine callsIn_of_wp_marks Tryz.func17 rfl trivial ?_ rfl
  simp only [Tryz.ntmps17, List.size_toArray, List.length_cons, List.length_nil, Nat.reduceAdd, Nat.reduceSub, Array.replicate_succ, Array.replicate_zero, List.push_toArray, List.append_toArray, List.nil_append, List.cons_append]
  gi_wp2_with fail
  obtain ⟨W1, hW1, B1, z1, b1⟩ := twoB w (.cells #[.slice a n c] 46) (.slice none 0 0) 30
  rw [hW1]
  refine ⟨trivial, (callsIn_wide.2 (set_All _ L _ (HS.out.below (B1.alloc B1.size _)))).mono ?_⟩
  rintro e w' ⟨rfl, rfl⟩
  clear hW1
  rw [World.size_alloc, z1]
  gi_wp2_with fail
  have b2 := Boxed.new W1 30 (.slice none 0 0)
  have b3 := Boxed.new (W1.alloc (.cells #[.slice none 0 0] 30)) 46 (.slice a n c)
  rw [z1] at b2
  rw [World.size_alloc, z1] at b3
  have hB0 : Below (w.heap.size + 2) W1 ((W1.alloc (.cells #[.slice none 0 0] 30)).alloc (.cells #[.slice a n c] 46)) := ((Below.refl _ W1).alloc (by omega) _).alloc (by simp; omega) _
  have hli : Hid (LiesIn ((W1.alloc (.cells #[.slice none 0 0] 30)).alloc (.cells #[.slice a n c] 46)) (w.heap.size + 2) (.slice a n c) L) := by
    have h1 := HLi.out.below B1
    exact (h1.mono (by omega)).below hB0
  refine wpIn_rangeFunc_ownG rfl (by omega) (gf := 55) (lb := #[.pointer (some ⟨w.heap.size + 2 + 1, 0, none⟩)]) rfl trivial (enters_of Tryz.func55 (by kernel_rfl) rfl)
    (set_All_stops (6 - 1) (by omega) (w.heap.size + 2 + 1) (w.heap.size + 2) (.slice a n c) L (by omega) _ (by simp; omega) (by simp; omega) b3.cell hli.out) belowK_t (belowK_b (by simp; omega)) (Below.refl _ _) (fun _ => rfl)
    (fun (pre : List Int) W => (∃ v, Boxed W (w.heap.size + 2) 30 v ∧ W.ownsRow (w.heap.size + 2) 3 1 v pre.length (pre.map numV) ∧ True) ∧ Below (w.heap.size + 2) W1 W)
    (fun _ _ _ => False)
    (OwnFrom.and (Own.from (holdsRow_own (w.heap.size + 2) (w.heap.size + 2) 30 3 1 (fun pre : List Int => pre.length) (fun pre => pre.map numV) (fun _ _ => True)) _) (ownFrom_below (by omega) (by simp; omega)))
    (fun _ _ _ _ _ hs _ _ => hs)
    ⟨⟨_, b2.alloc _, World.ownsRow_nil _ _ _ _, trivial⟩, hB0⟩
    (fun x => { tmps := #[.agg #[.slice a n c], .pointer (some ⟨w.heap.size, 0, none⟩), .pointer (some ⟨w.heap.size + 1, 0, none⟩), .pointer (some ⟨w.heap.size + 1 + 1, 0, none⟩), .func (.func 55) #[] #[.pointer (some ⟨w.heap.size + 2 + 1, 0, none⟩)], .int .i64 x, .agg #[.slice a n c], .func (.func 55) #[] #[.pointer (some ⟨w.heap.size + 2 + 1, 0, none⟩)], .func (.func 55) #[] #[.pointer (some ⟨w.heap.size + 2 + 1, 0, none⟩)], .bool false, undef, .func (.func 55) #[] #[.pointer (some ⟨w.heap.size + 2 + 1, 0, none⟩)], .int .i64 x, undef, undef, undef, undef, undef, undef, undef, undef, undef], defers := [] }) ?assign ?body ?done ?stop
  case assign =>
    intro l x W K hK
    gi_wp2
    exact hK
  case body =>
    rintro l pre x W ⟨⟨v, hv, hrow, _⟩, hB⟩ hlt
    have hc := hv.cell
    have hbs := hB.size
    have hlen : ¬ (2000 < pre.length + 1) := by omega
    gi_wp2_with (gi_at_builtin; refine wpListIn_append_own _ rfl _ _ 30 rfl (w.heap.size + 2) 3 i0 (.int .i64 0) 1 8 Tryz.underlying30 hi hz0 hz1 hz2 rfl (by decide) _ _ _ rfl (hrow.alloc _) ⟨W.heap.size, 0, none⟩ 1 1 [.int .i64 x] rfl rfl (cell_one_new _ _ _) (by simp [Value.oneCell']) (by simp only [maxLen]; omega) (by omega) (by simp; omega) ?_; intro v' w1 hown' hgrow _; obtain ⟨g', cap', rfl⟩ := ownsRow_succ hown'; obtain ⟨hv1, hv2, hr2, hk2, hb2⟩ := hv.appended (by decide) hrow (by omega) (Nat.le_refl _) hown' hgrow; have hc1 := hv1.cell; have hf1 := hv1.frozen)
    refine ⟨hk2.from _, hb2, ⟨_, hv2, ?_, trivial⟩, hB.trans hb2⟩
    rw [List.length_append, List.map_append]; exact hr2
  case done =>
    rintro D ys W hD rfl ⟨⟨v, hv, hrow, _⟩, hB⟩ hK
    have hc := hv.cell
    have hb1 := boxed_below b1 hB (by omega)
    have c1 := hb1.cell
    have f1 := hb1.frozen
    have hD : w.heap.size + 2 ≤ D := by simp at hD; omega
    rcases hrow.2 with ⟨rfl, h0⟩ | ⟨g, cap, cur, rfl, hbase, hg, h1, h2, h3, h4⟩
    all_goals
      have RW := Lib.hid hrow
      clear hrow
      gi_wp2
      have hK' : ∀ u, (W.setCell ⟨w.heap.size + 1, 0, none⟩ u).heap[D]? = some (.deferred (some [])) := fun u => (KeepsOthers.setCell W ⟨w.heap.size + 1, 0, none⟩ u).same D _ hK rfl
      refine ⟨by simp, .inl ⟨_, _, rfl, run_takeDeferred (hK' _), ?_⟩⟩
      have k1 : ∀ u, ((W.setCell ⟨w.heap.size + 1, 0, none⟩ u).putObj D (.deferred none)).cell? ⟨w.heap.size + 1, 0, none⟩ = some u := fun u => cell_kept (hb1.set u).cell (grownBy_putObj' _ D (.deferred none)) (fun r e => by cases e; exact ⟨_, hK' u, rfl⟩)
      refine ⟨_, ?_, _, rfl, (own_setCell RW.out ⟨w.heap.size + 1, 0, none⟩ _ (by show w.heap.size + 1 < w.heap.size + 2; omega)).putObj (.deferred none) (hK' _) rfl, (B1.trans (hB.mono (by omega))).trans (((Below.refl w.heap.size W).setCell (p := ⟨w.heap.size + 1, 0, none⟩) (by show w.heap.size ≤ w.heap.size + 1; omega) _).trans (belowK_b (w := w) (Nat.le_refl _) _ D _ _ (by omega) (hK' _) rfl rfl))⟩
      simp [results, Tryz.f17, go_sem, k1]
  case stop =>
    rintro D c pre W _ _ h _
    exact h.elim

end Go.Proofs.YtmfejpbijllojaaGreat

namespace Go.Proofs.YtmfejpbijllojaaGreat
open Go.RowKit Go.Shelf

theorem val_nil13 (W : World) : Calls Tryz.prog 44 #[.pointer none] W fun e w' => e = .returned (.agg #[.slice none 0 0, .slice none 0 0, .int .i64 0]) ∧ Below W.heap.size W w' := by
  go_enter Tryz.func44, Tryz.ntmps44
  go_wp2
  refine bodyPost_ret (by simp [results, Tryz.f44, go_sem]; rfl) rfl ?_
  exact ⟨rfl, new_below _ _⟩
set_option maxRecDepth 100000 in
theorem val_at13 (b : Nat) (a1 a2 : Option Addr) (n1 c1 n2 c2 : Nat) (z : Int) (W : World) (hb : Blk 76 W b [.slice a1 n1 c1, .slice a2 n2 c2, .int .i64 z]) :
    Calls Tryz.prog 44 #[.pointer (some ⟨b, 0, none⟩)] W fun e w' => e = .returned (.agg #[.slice a1 n1 c1, .slice a2 n2 c2, .int .i64 z]) ∧ Below W.heap.size W w' := by
  have d0 : ∀ o, (W.alloc o).cell? ⟨b, 0, none⟩ = some (.slice a1 n1 c1) := fun o => (hb.alloc o).at (o := 0) rfl
  have d1 : ∀ o, (W.alloc o).cell? ⟨b, 1, none⟩ = some (.slice a2 n2 c2) := fun o => (hb.alloc o).at (o := 1) rfl
  have d2 : ∀ o, (W.alloc o).cell? ⟨b, 2, none⟩ = some (.int .i64 z) := fun o => (hb.alloc o).at (o := 2) rfl
  clear hb
  go_enter Tryz.func44, Tryz.ntmps44
  go_wp2
  refine bodyPost_ret (by simp [results, Tryz.f44, go_sem]; rfl) rfl ?_
  exact ⟨rfl, new_below _ _⟩
theorem nd_SubsV (p : Value) (a1 a2 : Option Addr) (n1 c1 n2 c2 : Nat) (z : Int) (W : World)
    (hval : ∀ W', Below W.heap.size W W' → Calls Tryz.prog 44 #[p] W' fun e w' => e = .returned (.agg #[.slice a1 n1 c1, .slice a2 n2 c2, .int .i64 z]) ∧ Below W'.heap.size W' w') :
    Calls Tryz.prog 29 #[p] W fun e w' => e = .returned (.agg #[.slice a1 n1 c1]) ∧ Below W.heap.size W w' := by
  have hf0 := field_subs
  have hB := new_below W
  have HV := Lib.hid (fun o => hval _ (hB o))
  clear hval
  go_enter Tryz.func29, Tryz.ntmps29
  go_wp2_with fail
  refine (HV.out _).mono ?_
  rintro e w' ⟨rfl, hB2⟩
  have B2 := Lib.hid (below_step (hB _) hB2)
  have k1 := (hB2.cell (p := ⟨W.heap.size, 0, none⟩) (by simp)).trans (show (W.alloc (.cells #[.slice none 0 0] 46)).cell? ⟨W.heap.size, 0, none⟩ = some (.slice none 0 0) by simp)
  have f1 := (hB2.frozen (p := ⟨W.heap.size, 0, none⟩) (by simp)).trans (show (W.alloc (.cells #[.slice none 0 0] 46)).frozen? ⟨W.heap.size, 0, none⟩ = false by simp)
  clear hB2
  go_wp2
  refine bodyPost_ret (by simp [results, Tryz.f29, go_sem, k1]; rfl) rfl ?_
  exact ⟨rfl, B2.out.setCell (p := ⟨W.heap.size, 0, none⟩) (Nat.le_refl _) _⟩
theorem SetIn.cases {W : World} {a : Option Addr} {n c : Nat} {L : List Int} (h : SetIn W (.agg #[.slice a n c]) L) : NumsIn W (.slice a n c) L := by
  obtain ⟨⟨s, hv, hs⟩, _⟩ := h
  cases hv; exact hs
theorem lies_only {w0 W : World} {v : Value} {L : List Int} {S : Nat → Prop} (h : NumsIn w0 v L) (ho : Only S w0 W) (hoff : Off S v) : LiesIn W w0.heap.size v L := by
  rcases h.lies with h1 | ⟨b, off, cap, rfl, h1, h2, h3⟩
  · exact .inl h1
  · refine .inr ⟨b, off, cap, rfl, h1, h2, fun j v hj => ?_⟩
    rw [← h3 j v hj]
    exact World.cell?_of_block (w := w0) (ho.block b h2 (hoff _ _ _ _ rfl))
theorem nd_SubsX {S : Nat → Prop} {w0 : World} {o : Nd} (h : NodeIs S w0 o) : ∃ a n c, ∀ W, Only S w0 W → LiesIn W w0.heap.size (.slice a n c) (ndL o) ∧
    Calls Tryz.prog 29 #[ndP o] W fun e w' => e = .returned (.agg #[.slice a n c]) ∧ Below W.heap.size W w' := by
  cases o with
  | none => exact ⟨none, 0, 0, fun W _ => ⟨.inl ⟨rfl, rfl⟩, nd_SubsV _ none none 0 0 0 0 0 W fun W' _ => val_nil13 W'⟩⟩
  | some x =>
    obtain ⟨⟨a1, n1, c1, a2, n2, c2, hb, hs, _, ho1, _, hnb⟩, _⟩ := h
    exact ⟨a1, n1, c1, fun W hO => ⟨lies_only hs.cases hO ho1, nd_SubsV _ a1 a2 n1 c1 n2 c2 _ W fun W' hW' => val_at13 x.1 a1 a2 n1 c1 n2 c2 _ W' ((hb.only hO hnb).below hW' ((hb.only hO hnb).lt))⟩⟩
theorem set_AllN (s : Value) (L : List Int) (w : World) (h : NumsIn w s L) :
    Calls Tryz.prog 34 #[.agg #[s]] w fun e w' => ∃ N, e = .returned (.func (.func 55) #[] #[.pointer (some ⟨N, 0, none⟩)]) ∧ N < w'.heap.size ∧ w'.cell? ⟨N, 0, none⟩ = some s ∧ Below w.heap.size w w' := by
  refine (set_All s L w h).mono ?_
  rintro e w' ⟨rfl, rfl⟩
  exact ⟨_, rfl, by simp, (Boxed.new w 46 s).cell, new_below _ _⟩
theorem seq_appN (base Bn : Nat) (v s : Value) (A L : List Int) (w : World) (hrow : w.ownsRow base 3 1 v A.length (A.map numV)) (hb : base ≤ w.heap.size) (hBn : Bn < w.heap.size) (hc : w.cell? ⟨Bn, 0, none⟩ = some s) (hs : LiesIn w base s L) (hbig : A.length + L.length ≤ 1000000) :
    Calls Tryz.prog 61 #[v, .func (.func 55) #[] #[.pointer (some ⟨Bn, 0, none⟩)]] w fun e w' => ∃ a2 n2 c2, e = .returned (.slice a2 n2 c2) ∧ w'.ownsRow base 3 1 (.slice a2 n2 c2) (A ++ L).length ((A ++ L).map numV) ∧ Below base w w' := by
  refine (seq_app base Bn v s A L w hrow hb hBn hc hs hbig).mono ?_
  rintro e w' ⟨v', rfl, h1, h2⟩
  obtain ⟨a2, c2, rfl⟩ := own_form h1
  exact ⟨a2, _, c2, rfl, h1, h2⟩
end Go.Proofs.YtmfejpbijllojaaGreat
