/- Layer 11 (package ring, of ints): All. -/
import Derived.Test.YtmonfkiakjaimaaRingA11
import Derived.Maps.AppendAt
import Derived.Deep.AppendLies
namespace Go.Proofs.Ytmonfkiakjaimaa
open Go.RowKit Go.Shelf

theorem boxed_own {β : Type} (B : Nat) (t : TypeId) (v : Value) : Own (fun (_ : β) W => Boxed W B t v) := by
  rintro s X Y row hv hg hrow
  refine hv.kept hg (fun e' => ?_)
  obtain ⟨o, ho, hc⟩ := hrow B e'.symm
  rw [show X.heap[B]? = _ from hv] at ho; cases ho; cases hc
/-- An empty row with room. -/
theorem own_room (w : World) (c : Nat) (hc : c ≤ 1000000) : (w.alloc (.cells (madeCells #[.int .i64 0] c) 3)).ownsRow w.heap.size 3 1 (.slice (some ⟨w.heap.size, 0, none⟩) 0 c) 0 [] :=
  ⟨rfl, .inr ⟨w.heap.size, c, madeCells #[.int .i64 0] c, rfl, Nat.le_refl _, World.alloc_heap_new w _, Nat.zero_le _, by simp only [maxLen]; omega, by simp [madeCells], rfl⟩⟩
theorem run_make_room (c : Nat) (hc : c ≤ 1000000) (w : World) : Sem.run Try.prog (Instr.makeSlice 22 (.int .i64 0) (.int .i64 (c : Int))) w = .ok (.slice (some ⟨w.heap.size, 0, none⟩) 0 c) (w.alloc (.cells (madeCells #[.int .i64 0] c) 3)) := by
  obtain ⟨i, hi, hz, hs, hb⟩ := info_at infoInt
  have hr := run_make (P := Try.prog) w 22 3 i (.int .i64 0) Try.underlying22 hi hz .i64 .i64 0 (c : Int) (by omega) (by omega) (by rw [hb]; omega) (by omega)
  rw [hs, Int.toNat_natCast, Nat.mul_one] at hr
  exact hr
/-- A row with room, and its box. -/
theorem roomB (w : World) (n1 c : Nat) (hc : c ≤ 1000000) : ∃ W, ((w.drewN n1).alloc (.cells (madeCells #[.int .i64 0] c) 3)).alloc (.cells #[.slice (some ⟨w.heap.size, 0, none⟩) 0 c] 22) = W ∧ Below w.heap.size w W ∧ W.heap.size = w.heap.size + 2 ∧
    Boxed W (w.heap.size + 1) 22 (.slice (some ⟨w.heap.size, 0, none⟩) 0 c) ∧ W.ownsRow w.heap.size 3 1 (.slice (some ⟨w.heap.size, 0, none⟩) 0 c) 0 [] := by
  refine ⟨_, rfl, ((below_draws (Below.refl _ w) n1).alloc (Nat.le_refl _) _).alloc (by simp) _, by simp, ?_, (own_room (w.drewN n1) c hc).alloc _⟩
  have := Boxed.new ((w.drewN n1).alloc (.cells (madeCells #[.int .i64 0] c) 3)) 22 (.slice (some ⟨w.heap.size, 0, none⟩) 0 c)
  rw [World.size_alloc] at this
  exact this
attribute [local go_sem] Oper.semAt_some
set_option maxRecDepth 100000 in
set_option maxHeartbeats 2000000 in
theorem rg_All_of (p : Option Addr) (L : List Int) (hbig : L.length ≤ 1024) (w : World)
    (hLen : Calls Try.prog 15 #[.pointer p] w fun e w' => e = .returned (.int .i64 (L.length : Int)) ∧ ∃ n, w' = w.drewN n)
    (hSeq : ∀ Hb W, Below w.heap.size w W → W.cell? ⟨Hb, 0, none⟩ = some (.pointer p) → Hb < W.heap.size → SeqStopsK Fence.wide 5 Try.prog 27 #[.pointer (some ⟨Hb, 0, none⟩)] encR (KpH w.heap.size Hb) (fun ys => ys = L) (fun pre => pre <+: L) L.length W) :
    Calls Try.prog 24 #[.pointer p] w fun e w' => ∃ Lb v, e = .returned (.func (.func 26) #[] #[.pointer (some ⟨Lb, 0, none⟩)]) ∧ w.heap.size ≤ Lb ∧ Boxed w' Lb 22 v ∧ w'.ownsRow w.heap.size 3 1 v L.length (L.map numV) ∧ Below w.heap.size w w' := by
  obtain ⟨i0, hi, hz0, hz1, hz2⟩ := info_parts infoInt
  have HMk := Lib.hid fun n => run_make_room L.length (by omega) (w.drewN n)
  have HSeq := Lib.hid hSeq
  have HLen := Lib.hid hLen
  clear hSeq hLen
  refine (callsIn_wide (n := 6)).1 ?_
  refine callsIn_of_wp_marks Try.func24 rfl trivial ?_ rfl
  simp only [Try.ntmps24, List.size_toArray, List.length_cons, List.length_nil, Nat.reduceAdd, Nat.reduceSub, Array.replicate_succ, Array.replicate_zero, List.push_toArray, List.append_toArray, List.nil_append, List.cons_append]
  gi_wp2_with fail
  refine ⟨trivial, (callsIn_wide.2 HLen.out).mono ?_⟩
  rintro e w' ⟨rfl, n1, rfl⟩
  have hmk := HMk.out n1
  gi_wp2_with fail
  obtain ⟨W1, hW1, B1, z1, b1, r1⟩ := roomB w n1 L.length (by omega)
  rw [hW1]
  refine ⟨trivial, (callsIn_wide.2 (rg_held p W1)).mono ?_⟩
  rintro e w' ⟨rfl, rfl⟩
  clear hW1 hmk
  have B2 : Below w.heap.size w (W1.alloc (.cells #[.pointer p] 24)) := B1.alloc (by omega) _
  have z2 : (W1.alloc (.cells #[.pointer p] 24)).heap.size = w.heap.size + 3 := by rw [World.size_alloc, z1]
  have h2 := Boxed.new W1 24 (.pointer p)
  have b2 := b1.alloc (.cells #[.pointer p] 24)
  have r2 := r1.alloc (.cells #[.pointer p] 24)
  rw [z1] at h2 ⊢
  generalize W1.alloc (.cells #[.pointer p] 24) = W2 at *
  clear b1 r1 B1 z1
  gi_wp2_with fail
  refine wpIn_rangeFunc_ownG rfl (by omega) (gf := 27) (lb := #[.pointer (some ⟨w.heap.size + 2, 0, none⟩)]) rfl trivial (enters_of Try.func27 (by kernel_rfl) rfl)
    (HSeq.out (w.heap.size + 2) W2 B2 h2.cell h2.lt) (fun h k => h.trans k) (kpH_book (by omega)) (Below.refl _ _) (fun _ => rfl)
    (fun (pre : List Int) W => ((∃ v, Boxed W (w.heap.size + 1) 22 v ∧ W.ownsRow w.heap.size 3 1 v pre.length (pre.map numV) ∧ True) ∧ Below w.heap.size w W) ∧ Boxed W (w.heap.size + 2) 24 (.pointer p))
    (fun _ _ _ => False)
    (OwnFrom.and (OwnFrom.and (Own.from (holdsRow_own w.heap.size (w.heap.size + 1) 22 3 1 (fun pre : List Int => pre.length) (fun pre => pre.map numV) (fun _ _ => True)) _) (ownFrom_below (by omega) (by omega))) (Own.from (boxed_own _ _ _) _))
    (fun _ _ _ _ _ hs _ _ => hs)
    ⟨⟨⟨_, b2, r2, trivial⟩, B2⟩, h2⟩
    (fun x => { tmps := #[.pointer p, undef, .nilFunc, .pointer (some ⟨w.heap.size + 1, 0, none⟩), .int .i64 x, .pointer p, .int .i64 (L.length : Int), .slice (some ⟨w.heap.size, 0, none⟩) 0 L.length, .pointer p, .func (.func 27) #[] #[.pointer (some ⟨w.heap.size + 2, 0, none⟩)], .int .i64 x, undef, undef, undef, undef, undef], defers := [] }) ?assign ?body ?done ?stop
  case assign =>
    intro l x W K hK
    gi_wp2
    exact hK
  case body =>
    rintro l pre x W ⟨⟨⟨v, hv, hrow, _⟩, hB⟩, hH⟩ hlt
    have hc := hv.cell
    have hbs := hB.size
    have hnr : some (w.heap.size + 2) ≠ v.ownBlock := hH.not_row (by decide) hrow
    gi_wp2_with (gi_at_builtin; refine wpListIn_append_own _ rfl _ _ 22 rfl w.heap.size 3 i0 (.int .i64 0) 1 8 Try.underlying22 hi hz0 hz1 hz2 rfl (by decide) _ _ _ rfl (hrow.alloc _) ⟨W.heap.size, 0, none⟩ 1 1 [.int .i64 x] rfl rfl (cell_one_new _ _ _) (by simp [Value.oneCell']) (by simp only [maxLen]; omega) (by omega) (by simp; omega) ?_; intro v' w1 hown' hgrow _; have hH1 := (hH.alloc (.cells #[.int .i64 x] 3)).kept hgrow hnr; obtain ⟨g', cap', rfl⟩ := ownsRow_succ hown'; obtain ⟨hv1, hv2, hr2, hk2, hb2⟩ := hv.appended (by decide) hrow (by omega) (by omega) hown' hgrow; have hc1 := hv1.cell; have hf1 := hv1.frozen)
    have hH2 : Boxed (w1.setCell ⟨w.heap.size + 1, 0, none⟩ (.slice (some ⟨g', 0, none⟩) (pre.length + 1) cap')) (w.heap.size + 2) 24 (.pointer p) := by
      have := Blk.setOther (t := 24) (W := w1) (B := w.heap.size + 2) (C := w.heap.size + 1) (l := [.pointer p]) hH1 (by omega) 0 (.slice (some ⟨g', 0, none⟩) (pre.length + 1) cap')
      exact this
    refine ⟨hk2.from _, ⟨hb2, fun u hu => ?_⟩, ⟨⟨_, hv2, ?_, trivial⟩, hB.trans hb2⟩, hH2⟩
    · rw [hH.cell] at hu
      rw [hH2.cell, hu]
    · rw [List.length_append, List.map_append]; exact hr2
  case done =>
    rintro D ys W hD rfl ⟨⟨⟨v, hv, hrow, _⟩, hB⟩, hH⟩ hK
    have hc := hv.cell
    gi_wp2
    refine ⟨by simp, .inl ⟨_, _, rfl, run_takeDeferred hK, ?_⟩⟩
    refine ⟨_, results_tmp rfl _ _ _, w.heap.size + 1, v, rfl, by omega, ?_, ownsRow_putObj hrow (.deferred none) hK rfl, hB.trans (belowK_b (w := w) (Nat.le_refl _) W D _ _ (by omega) hK rfl rfl)⟩
    exact hv.kept (grownBy_putObj' W D (.deferred none)) (fun e => by cases e; omega)
  case stop =>
    rintro D c pre W _ _ h _
    exact h.elim

theorem rg_All {B S : Nat} {x : Rg} {w : World} (h : RgIs w B S x) (hg : x.g ≤ 100000) :
    Calls Try.prog 24 #[.pointer (some ⟨B, 0, none⟩)] w fun e w' => ∃ Lb v, e = .returned (.func (.func 26) #[] #[.pointer (some ⟨Lb, 0, none⟩)]) ∧ w.heap.size ≤ Lb ∧ Boxed w' Lb 22 v ∧ w'.ownsRow w.heap.size 3 1 v x.L.length (x.L.map numV) ∧ Below w.heap.size w w' :=
  rg_All_of _ x.L (by have := h.ok.fit; have := h.ok.most; omega) w (rg_Len h (by omega)) fun Hb W hW hc hl =>
    rg_held_stops 5 (by omega) Hb B S w.heap.size x hg W hc hl (h.below hW) h.blk.lt h.row.lt
theorem rg_All_nil (w : World) :
    Calls Try.prog 24 #[.pointer none] w fun e w' => ∃ Lb v, e = .returned (.func (.func 26) #[] #[.pointer (some ⟨Lb, 0, none⟩)]) ∧ w.heap.size ≤ Lb ∧ Boxed w' Lb 22 v ∧ w'.ownsRow w.heap.size 3 1 v 0 [] ∧ Below w.heap.size w w' :=
  rg_All_of none [] (by simp) w ((rg_Len_nil w).mono fun e w' ⟨h1, h2⟩ => ⟨h1, 0, h2.symm⟩) fun Hb W _ hc hl => rg_held_stops_nil 5 (by omega) Hb w.heap.size W hc hl

end Go.Proofs.Ytmonfkiakjaimaa
