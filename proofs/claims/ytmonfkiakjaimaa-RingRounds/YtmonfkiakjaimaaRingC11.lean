/- Layer 11 (package ring, of ints): ranging over All; the law's own 'list'. -/
import Derived.Test.YtmonfkiakjaimaaRingB11
namespace Go.Proofs.Ytmonfkiakjaimaa
open Go.RowKit Go.Shelf

attribute [local go_sem] Oper.semAt_some
/-- The row's block stays. -/
def KpRow (v : Value) (W W' : World) : Prop := ∀ g, v.ownBlock = some g → ∀ cs t z, W.heap[g]? = some (.cells cs t z) → W'.heap[g]? = some (.cells cs t z)
theorem KpRow.refl (v : Value) (W : World) : KpRow v W W := fun _ _ _ _ _ h => h
theorem KpRow.trans {v : Value} {A B C : World} (h : KpRow v A B) (k : KpRow v B C) : KpRow v A C := fun g hg cs t z hc => k g hg cs t z (h g hg cs t z hc)
theorem kpRow_book {v : Value} (W : World) (l : Nat) (o o' : Obj) (h : W.heap[l]? = some o) (h1 : o.isCells = false) : KpRow v W (W.putObj l o') := fun g _ cs t z hc => by
  have hne : some g ≠ some l := by rintro e; cases e; rw [h] at hc; cases hc; cases h1
  exact ((grownBy_putObj' W l o').block g (Array.getElem?_eq_some_iff.1 hc).1 hne).trans hc
theorem KpRow.draws {v : Value} {A B : World} (h : KpRow v A B) (m : Nat) : KpRow v A (B.drewN m) := h
set_option maxRecDepth 100000 in
set_option maxHeartbeats 1000000 in
theorem rg_all1 (n : Nat) (hn : 1 ≤ n) (l Bn base : Nat) (v : Value) (L : List Int) (hbig : L.length ≤ 1000000) (J Jx : List Int → World → Prop) (W : World)
    (hY : ∀ pre x W1, J pre W1 → pre.length < L.length → YieldAt Fence.wide (n - 1) Try.prog l (encR x) W1 fun e W' =>
      (e = .returned (.bool true) ∧ J (pre ++ [x]) W' ∧ KpRow v W1 W') ∨ (e = .returned (.bool false) ∧ Jx (pre ++ [x]) W'))
    (hBn : W.cell? ⟨Bn, 0, none⟩ = some v) (hs : W.ownsRow base 3 1 v L.length (L.map numV)) (h0 : J [] W) :
    CallsIn Fence.wide n Try.prog 26 #[.func (.yield l) #[] #[], .pointer (some ⟨Bn, 0, none⟩)] W fun e W' => (∃ v, e = .returned v) ∧
      ((∃ ys, ys = L ∧ J ys W') ∨ (∃ pre, pre <+: L ∧ Jx pre W')) := by
  rcases hs.2 with ⟨rfl, hL⟩ | ⟨g, cap, cur, rfl, _, h2, _, _, _, h6⟩
  · obtain rfl : L = [] := List.eq_nil_of_length_eq_zero hL
    refine callsIn_of_wp Try.func26 rfl trivial ?_ rfl
    simp only [Try.ntmps26, List.size_toArray, List.length_cons, List.length_nil, Nat.reduceAdd, Nat.reduceSub, Array.replicate_succ, Array.replicate_zero, List.push_toArray, List.append_toArray, List.nil_append, List.cons_append]
    gi_wp2
    gi_loopw [7] (fun i wr => i = .int .i64 0 ∧ J [] wr) (fun _ _ => 0)
    case atStart => exact ⟨rfl, h0⟩
    case round =>
      obtain ⟨rfl, hJs⟩ := hrel
      gi_wp2
      go_end0
      exact ⟨⟨_, rfl⟩, .inl ⟨[], rfl, hJs⟩⟩
  · have C : Hid (∀ wr, KpRow (.slice (some ⟨g, 0, none⟩) L.length cap) W wr → ∀ k, k < L.length → wr.cell? ⟨g, k, none⟩ = some (.int .i64 (L.getD k 0))) := Lib.hid fun wr hk k hl => by
      have h8 : wr.heap[g]? = some (.cells cur.toList.toArray 3 (0, 0)) := by simpa using hk g rfl _ _ _ h2
      have h7 : CellsAt wr g 0 (L.map numV) := by
        rw [← h6]
        exact (cellsAt_of_heap h8).take _
      have := cells_num h7 k hl
      simpa using this
    have HT : Hid (∀ k, k < L.length → L.take (k + 1) = L.take k ++ [L.getD k 0]) := fun k hk => by
      rw [List.take_succ_eq_append_getElem hk]; simp [List.getD, List.getElem?_eq_getElem hk]
    clear h2 h6 hs
    refine callsIn_of_wp Try.func26 rfl trivial ?_ rfl
    simp only [Try.ntmps26, List.size_toArray, List.length_cons, List.length_nil, Nat.reduceAdd, Nat.reduceSub, Array.replicate_succ, Array.replicate_zero, List.push_toArray, List.append_toArray, List.nil_append, List.cons_append]
    gi_wp2
    gi_loopw [7] (fun i wr => ∃ k : Nat, k ≤ L.length ∧ i = .int .i64 k ∧ J (L.take k) wr ∧ Hid (KpRow (.slice (some ⟨g, 0, none⟩) L.length cap) W wr)) (fun i _ => L.length - (intOf i).toNat)
    case atStart => exact ⟨0, Nat.zero_le _, rfl, h0, Lib.hid (KpRow.refl _ _)⟩
    case round =>
      obtain ⟨k, hk, rfl, hJs, hB⟩ := hrel
      by_cases hkl : k < L.length
      · have hcell := C.out wr hB.out k hkl
        have T := Lib.hid (HT.out k hkl)
        generalize hy : L.getD k 0 = y at hcell
        have Y := Lib.hid hy
        clear hy
        obtain ⟨fn, tmps, assign, body, hy, hR⟩ := hY (L.take k) y wr hJs (by simp; omega)
        dsimp only [encR] at hy
        gi_wp2
        refine hR.mono ?_
        rintro e W3 (⟨rfl, hJ3, hB3⟩ | ⟨rfl, hJx3⟩)
        · gi_wp2
          go_roundw
          case rel =>
            refine ⟨k + 1, by omega, by go_num, ?_, Lib.hid (hB.out.trans hB3)⟩
            rw [T.out, Y.out]; exact hJ3
          case measure => simp [intOf]; omega
        · gi_wp2
          refine bodyPost_ret (results_none rfl _ _ _) rfl ?_
          refine ⟨⟨_, rfl⟩, .inr ⟨L.take k ++ [y], ?_, hJx3⟩⟩
          rw [← Y.out, ← T.out]; exact List.take_prefix _ _
      · gi_wp2
        go_end0
        refine ⟨⟨_, rfl⟩, .inl ⟨L, rfl, ?_⟩⟩
        rw [List.take_of_length_le (by omega)] at hJs; exact hJs
theorem rg_all_stops (n : Nat) (hn : 1 ≤ n) (Bn base : Nat) (v : Value) (L : List Int) (hbig : L.length ≤ 1000000) (w : World) (hBn : Boxed w Bn 22 v) (hs : w.ownsRow base 3 1 v L.length (L.map numV)) :
    SeqStopsK Fence.wide n Try.prog 26 #[.pointer (some ⟨Bn, 0, none⟩)] encR (KpRow v) (fun ys => ys = L) (fun pre => pre <+: L) L.length w := fun l J Jx W hW _ _ hY h0 =>
  rg_all1 n hn l Bn base v L hbig J Jx W hY ((hW.cell (p := ⟨Bn, 0, none⟩) hBn.lt).trans hBn.cell) (own_only hs (Only.of_below hW (fun _ => False)) (fun _ _ h => h)) h0
theorem ownFrom_only {β : Type} {n₀ B : Nat} {S : Nat → Prop} {w₀ : World} (hn : n₀ ≤ B) (hS : ∀ k, n₀ ≤ k → S k) : OwnFrom B (fun (_ : β) W => Only S w₀ W) :=
  fun _ _ _ _ hs hg hr => hs.trans ((grown_only hg).mono (fun k _ e => hS k (by have := (hr k e).1; omega)))
/-- An append to the row of a box. -/
theorem boxed_app {W w1 : World} {N B m k : Nat} {v v' : Value} {xs ys : List Value} {tmp : Obj} (hv : Boxed W B 22 v) (hrow : W.ownsRow N 3 1 v k xs) (hown' : w1.ownsRow N 3 1 v' m ys) (hgrow : (W.alloc tmp).grownBy w1 v.ownBlock) :
    Boxed w1 B 22 v ∧ Boxed (w1.setCell ⟨B, 0, none⟩ v') B 22 v' ∧ (w1.setCell ⟨B, 0, none⟩ v').ownsRow N 3 1 v' m ys ∧ KeepsOthers W (w1.setCell ⟨B, 0, none⟩ v') ∧ Only (fun k => k = B ∨ v.ownBlock = some k) W (w1.setCell ⟨B, 0, none⟩ v') := by
  obtain ⟨h1, h2, _, h4, _⟩ := hv.appended (n₀ := 0) (by decide) (own_lower hrow (Nat.zero_le _)) (Nat.zero_le _) (Nat.zero_le _) (own_lower hown' (Nat.zero_le _)) hgrow
  have o1 := only_at w1 B 0 v'
  have hb : Blk 22 w1 B [v] := h1
  refine ⟨h1, h2, own_only hown' o1 (fun k hk e => blk_apart hb hown' hk (by decide) e.symm), h4, ?_⟩
  exact ((((Only.refl (fun k => v.ownBlock = some k) W).alloc tmp).trans (grown_only hgrow)).mono (fun k _ e => .inr e)).trans (o1.mono (fun k _ e => .inl e))
/-- Two boxes: for the result, for the list. -/
theorem twoB11 (w : World) : ∃ W, (w.alloc (.cells #[.slice none 0 0] 22)).alloc (.cells #[.slice none 0 0] 22) = W ∧ Below w.heap.size w W ∧ W.heap.size = w.heap.size + 2 ∧ Boxed W w.heap.size 22 (.slice none 0 0) ∧ Boxed W (w.heap.size + 1) 22 (.slice none 0 0) := by
  have h1 : Below w.heap.size w (w.alloc (.cells #[.slice none 0 0] 22)) := (Below.refl _ _).alloc (Nat.le_refl _) _
  refine ⟨_, rfl, h1.alloc (by simp) _, by simp, (Boxed.new w 22 (.slice none 0 0)).alloc _, ?_⟩
  have b1 := Boxed.new (w.alloc (.cells #[.slice none 0 0] 22)) 22 (.slice none 0 0)
  rw [World.size_alloc] at b1
  exact b1
set_option maxRecDepth 100000 in
set_option maxHeartbeats 2000000 in
theorem law_list_of (p : Option Addr) (L : List Int) (hbig : L.length ≤ 1024) (w : World)
    (hAll : ∀ W, Below w.heap.size w W → Calls Try.prog 24 #[.pointer p] W fun e w' => ∃ Lb v, e = .returned (.func (.func 26) #[] #[.pointer (some ⟨Lb, 0, none⟩)]) ∧ W.heap.size ≤ Lb ∧ Boxed w' Lb 22 v ∧ w'.ownsRow W.heap.size 3 1 v L.length (L.map numV) ∧ Below W.heap.size W w') :
    Calls Try.prog 20 #[.pointer p] w fun e w' => ∃ r, e = .returned r ∧ NumsIn w' r L ∧ Below w.heap.size w w' := by
  obtain ⟨i0, hi, hz0, hz1, hz2⟩ := info_parts infoInt
  have HA := Lib.hid hAll
  have hnil : ∀ (W : World) (p : Array Value), Sem.run Try.prog (binOp BinOp.eql 50 (Value.func (Fn.func 26) #[] p) Value.nilFunc) W = .ok (.bool false) W := fun _ _ => by kernel_rfl
  clear hAll
  refine (callsIn_wide (n := 6)).1 ?_
  refine callsIn_of_wp_marks Try.func20 rfl trivial ?_ rfl
  simp only [Try.ntmps20, List.size_toArray, List.length_cons, List.length_nil, Nat.reduceAdd, Nat.reduceSub, Array.replicate_succ, Array.replicate_zero, List.push_toArray, List.append_toArray, List.nil_append, List.cons_append]
  gi_wp2_with fail
  obtain ⟨W1, hW1, B1, z1, r1, b1⟩ := twoB11 w
  rw [hW1]
  refine ⟨trivial, (callsIn_wide.2 (HA.out W1 B1)).mono ?_⟩
  rintro e W2 ⟨Lb, va, rfl, hLb, hbx, hrow, hB2⟩
  clear hW1
  gi_wp2_with fail
  have hr2 : Boxed W2 w.heap.size 22 (.slice none 0 0) := boxed_below r1 hB2 (by omega)
  have hb2 : Boxed W2 (w.heap.size + 1) 22 (.slice none 0 0) := boxed_below b1 hB2 (by omega)
  have hs2 := hB2.size
  have BW : Hid (Below w.heap.size w W2) := Lib.hid (B1.trans (hB2.mono (by omega)))
  have hva : Hid (∀ g, va.ownBlock = some g → w.heap.size + 2 ≤ g ∧ g < W2.heap.size) := Lib.hid fun g hg => ⟨by have := own_base3 hrow g hg; omega, (hrow.lt g hg).2⟩
  refine wpIn_rangeFunc_ownG rfl (by omega) (gf := 26) (lb := #[.pointer (some ⟨Lb, 0, none⟩)]) rfl trivial (enters_of Try.func26 (by kernel_rfl) rfl)
    (rg_all_stops 5 (by omega) Lb W1.heap.size va L (by omega) W2 hbx hrow) (fun h k => h.trans k) (fun W l o o' _ h h1 _ => kpRow_book W l o o' h h1) (Below.refl _ _) (fun _ => rfl)
    (fun (pre : List Int) W => (∃ v, Boxed W (w.heap.size + 1) 22 v ∧ W.ownsRow W2.heap.size 3 1 v pre.length (pre.map numV) ∧ True) ∧ Only (fun k => k = w.heap.size + 1 ∨ W2.heap.size ≤ k) W2 W)
    (fun _ _ _ => False)
    (OwnFrom.and (Own.from (holdsRow_own W2.heap.size (w.heap.size + 1) 22 3 1 (fun pre : List Int => pre.length) (fun pre => pre.map numV) (fun _ _ => True)) _) (ownFrom_only (Nat.le_refl _) (fun k hk => .inr hk)))
    (fun _ _ _ _ _ hs _ _ => hs)
    ⟨⟨_, hb2, World.ownsRow_nil _ _ _ _, trivial⟩, Only.refl _ _⟩
    (fun x => { tmps := #[.pointer p, undef, .pointer (some ⟨w.heap.size, 0, none⟩), .pointer (some ⟨w.heap.size + 1, 0, none⟩), .func (.func 26) #[] #[.pointer (some ⟨Lb, 0, none⟩)], .int .i64 x, .pointer p, .func (.func 26) #[] #[.pointer (some ⟨Lb, 0, none⟩)], .func (.func 26) #[] #[.pointer (some ⟨Lb, 0, none⟩)], .bool false, undef, .func (.func 26) #[] #[.pointer (some ⟨Lb, 0, none⟩)], .int .i64 x, undef, undef, undef, undef, undef, undef, undef, undef, undef], defers := [] }) ?assign ?body ?done ?stop
  case assign =>
    intro l x W K hK
    gi_wp2
    exact hK
  case body =>
    rintro l pre x W ⟨⟨v, hv, hrow', _⟩, hO⟩ hlt
    have hc := hv.cell
    have hbs := hO.size
    have hlen : ¬ (2000 < pre.length + 1) := by omega
    gi_wp2_with (gi_at_builtin; refine wpListIn_append_own _ rfl _ _ 22 rfl W2.heap.size 3 i0 (.int .i64 0) 1 8 Try.underlying22 hi hz0 hz1 hz2 rfl (by decide) _ _ _ rfl (hrow'.alloc _) ⟨W.heap.size, 0, none⟩ 1 1 [.int .i64 x] rfl rfl (cell_one_new _ _ _) (by simp [Value.oneCell']) (by simp only [maxLen]; omega) (by omega) (by simp; omega) ?_; intro v' w1 hown' hgrow _; obtain ⟨g', cap', rfl⟩ := ownsRow_succ hown'; obtain ⟨hv1, hv2, hr3, hk2, ho2⟩ := boxed_app hv hrow' hown' hgrow; have hc1 := hv1.cell; have hf1 := hv1.frozen)
    have ho3 := ho2.mono (T := fun k => k = w.heap.size + 1 ∨ W2.heap.size ≤ k) (fun k _ e => e.imp id (fun e => own_base3 hrow' k e))
    refine ⟨hk2.from _, fun g hg cs t z hcs => ?_, ⟨_, hv2, ?_, trivial⟩, hO.trans ho3⟩
    · have h3 := hva.out g hg
      rw [ho3.block g (Array.getElem?_eq_some_iff.1 hcs).1 (by omega)]
      exact hcs
    · rw [List.length_append, List.map_append]; exact hr3
  case done =>
    rintro D ys W hD rfl ⟨⟨v, hv, hrow', _⟩, hO⟩ hK
    have hc := hv.cell
    have hr3 : Boxed W w.heap.size 22 (.slice none 0 0) := Blk.only (l := [.slice none 0 0]) hr2 hO (by omega)
    have c1 := hr3.cell
    have f1 := hr3.frozen
    obtain ⟨a, cc, rfl⟩ := own_form hrow'
    have RW := Lib.hid hrow'
    clear hrow'
    gi_wp2
    have hK' : ∀ u, (W.setCell ⟨w.heap.size, 0, none⟩ u).heap[D]? = some (.deferred (some [])) := fun u => (KeepsOthers.setCell W ⟨w.heap.size, 0, none⟩ u).same D _ hK rfl
    refine ⟨by simp, .inl ⟨_, _, rfl, run_takeDeferred (hK' _), ?_⟩⟩
    have k1 : ∀ u, ((W.setCell ⟨w.heap.size, 0, none⟩ u).putObj D (.deferred none)).cell? ⟨w.heap.size, 0, none⟩ = some u := fun u => cell_kept (hr3.set u).cell (grownBy_putObj' _ D (.deferred none)) (fun r e => by cases e; exact ⟨_, hK' u, rfl⟩)
    have hrr := own_only RW.out (only_at W w.heap.size 0 (.slice a ys.length cc)) (fun k hk e => by have := own_base3 RW.out k hk; omega)
    refine ⟨_, ?_, _, rfl, SliceK.of_own (ownsRow_putObj hrr (.deferred none) (hK' _) rfl), ?_⟩
    · simp [results, Try.f20, go_sem, k1]
    · have h9 : Below w.heap.size w W := BW.out.trans (hO.below (by omega) (fun k hk e => by omega))
      exact (h9.setCell (p := ⟨w.heap.size, 0, none⟩) (Nat.le_refl _) _).trans (belowK_b (w := w) (Nat.le_refl _) _ D _ _ (by omega) (hK' _) rfl rfl)
  case stop =>
    rintro D c pre W _ _ h _
    exact h.elim

theorem law_list11 {B S : Nat} {x : Rg} {w : World} (h : RgIs w B S x) (hg : x.g ≤ 100000) :
    Calls Try.prog 20 #[.pointer (some ⟨B, 0, none⟩)] w fun e w' => ∃ r, e = .returned r ∧ NumsIn w' r x.L ∧ Below w.heap.size w w' :=
  law_list_of _ x.L (by have := h.ok.fit; have := h.ok.most; omega) w fun W hW => rg_All (h.below hW) hg
theorem law_list11_nil (w : World) : Calls Try.prog 20 #[.pointer none] w fun e w' => ∃ r, e = .returned r ∧ NumsIn w' r [] ∧ Below w.heap.size w w' :=
  law_list_of none [] (by simp) w fun W _ => rg_All_nil W

end Go.Proofs.Ytmonfkiakjaimaa
