/- The law's own 'same': a map and the document's map have the same entries. Made by tools/gen_same.py. -/
import Derived.Test.YtlfehhegkpoojaaRefPut3
namespace Go.Proofs.Ytlfehhegkpoojaa
open Go.RowKit Go.Shelf

attribute [local go_sem] Oper.semAt_some

theorem prefix_snoc {α : Type} {pre E : List α} {x : α} (h : pre <+: E) (hx : E[pre.length]? = some x) : pre ++ [x] <+: E := by
  obtain ⟨t, rfl⟩ := h
  rw [List.getElem?_append_right (Nat.le_refl _), Nat.sub_self] at hx
  cases t with
  | nil => simp at hx
  | cons y t =>
    obtain rfl : y = x := by simpa using hx
    exact ⟨t, by simp⟩
theorem prefix_at {α : Type} {pre E : List α} {x : α} (h : pre ++ [x] <+: E) : E[pre.length]? = some x := by
  obtain ⟨t, rfl⟩ := h
  simp
theorem threeC (w : World) (s ks vs r : Value) : ∃ W, ((w.alloc (.cells #[s] 39)).alloc (.cells #[ks, vs] 41)).alloc (.cells #[r] 4) = W ∧ Below w.heap.size w W ∧ W.heap.size = w.heap.size + 3 ∧
    W.cell? ⟨w.heap.size, 0, none⟩ = some s ∧ W.cell? ⟨w.heap.size + 1, 0, none⟩ = some ks ∧ W.cell? ⟨w.heap.size + 1, 1, none⟩ = some vs ∧ Boxed W (w.heap.size + 1 + 1) 4 r := by
  have h1 : Below w.heap.size w (w.alloc (.cells #[s] 39)) := (Below.refl _ _).alloc (Nat.le_refl _) _
  have h2 := h1.alloc (by simp) (.cells #[ks, vs] 41)
  have h3 := h2.alloc (by simp; omega) (.cells #[r] 4)
  have e0 : (((w.alloc (.cells #[s] 39)).alloc (.cells #[ks, vs] 41)).alloc (.cells #[r] 4)).heap[w.heap.size]? = some (.cells #[s] 39 (0, 0)) := by
    rw [heap_alloc_at, if_neg (by simp; omega), heap_alloc_at, if_neg (by simp), heap_alloc_at, if_pos rfl]
  have e1 : (((w.alloc (.cells #[s] 39)).alloc (.cells #[ks, vs] 41)).alloc (.cells #[r] 4)).heap[w.heap.size + 1]? = some (.cells #[ks, vs] 41 (0, 0)) := by
    rw [heap_alloc_at, if_neg (by simp), heap_alloc_at, if_pos (by simp)]
  have b2 := Boxed.new ((w.alloc (.cells #[s] 39)).alloc (.cells #[ks, vs] 41)) 4 r
  refine ⟨_, rfl, h3, by simp, by simp only [World.cell?, e0]; rfl, by simp only [World.cell?, e1]; rfl, by simp only [World.cell?, e1]; rfl, ?_⟩
  simpa using b2

set_option maxRecDepth 100000 in
set_option maxHeartbeats 4000000 in
theorem law_same (v u : Value) (E : List Ent) (w : World) (h : MapIn w v E) (h' : RefIn w u E) (hbig : E.length ≤ 10000) :
    Calls Try.prog 24 #[v, u] w fun e w' => e = .returned (.bool true) ∧ Below w.heap.size w w' := by
  have HM := Lib.hid h
  obtain ⟨a, n, c, rfl⟩ := h.form
  obtain ⟨⟨s, hv, hs⟩, hu⟩ := h
  cases hv
  obtain ⟨ka, kc, va, vc, rfl, r1, r2⟩ := h'
  have HS := Lib.hid hs
  have HL := Lib.hid hs.lies
  have K1 := Lib.hid (fun i p (hp : E[i]? = some p) => slice_at (f := fun p : Ent => keyV p.1) r1 i p hp)
  have V1 := Lib.hid (fun i p (hp : E[i]? = some p) => slice_at (f := fun p : Ent => numV p.2) r2 i p hp)
  have hnil : ∀ (W : World) (p : Array Value), Sem.run Try.prog (binOp BinOp.eql 64 (Value.func (Fn.func 44) #[] p) Value.nilFunc) W = .ok (.bool false) W := fun _ _ => by kernel_rfl
  clear hs hu r1 r2
  refine (callsIn_wide (n := 6)).1 ?_
  refine callsIn_of_wp_marks Try.func24 rfl trivial ?_ rfl
  simp only [Try.ntmps24, List.size_toArray, List.length_cons, List.length_nil, Nat.reduceAdd, Nat.reduceSub, Array.replicate_succ, Array.replicate_zero, List.push_toArray, List.append_toArray, List.nil_append, List.cons_append]
  gi_wp2_with fail
  refine wpIn_wide.2 ?_
  rename_i Kx hKx
  refine wp_mono (Q := Exit.then Kx (fun _ _ _ => False)) ?_ (fun e a w h => by cases e <;> first | exact h | exact h.elim)
  obtain ⟨W3, hW, B3, z3, c0, c1, c2, b2⟩ := threeC w (.slice a n c) (.slice ka E.length kc) (.slice va E.length vc) (.bool false)
  rw [hW]
  clear hW
  have hBc : Below W3.heap.size W3 W3.drew := (Below.refl _ _).drew
  have p0 : w.heap.size < W3.heap.size := by omega
  have p1 : w.heap.size + 1 < W3.heap.size := by omega
  refine wp_region_held_drew (S := (fun w' => w'.cell? ⟨w.heap.size, 0, none⟩ = some (.slice a n c) ∧ w'.cell? ⟨w.heap.size + 1, 0, none⟩ = some (.slice ka E.length kc))) (by kernel_rfl) ?_ (fun hHeld => ?_)
  · exact ⟨(hBc.cell (p := ⟨w.heap.size, 0, none⟩) p0).trans c0, (hBc.cell (p := ⟨w.heap.size + 1, 0, none⟩) p1).trans c1⟩
  refine wpAnyH_take (i := 0) (oi := ⟨some 9, _, _, _, _, _⟩) (v := ?_) rfl (by kernel_rfl) (by kernel_rfl) (by kernel_rfl) (fun _ _ _ h => h) (Or.inl ⟨by rfl, ?_⟩) (by assumption) ?_
  rotate_left
  · (intro w hSw; (try dsimp only at hSw); go_simp; try with_reducible rfl)
  try simp only [Act.put, List.setIfInBounds_toArray, List.set_cons_zero, List.set_cons_succ]
  refine wpAnyH_take (i := 2) (oi := ⟨some 11, _, _, _, _, _⟩) (v := ?_) rfl (by kernel_rfl) (by kernel_rfl) (by kernel_rfl) (fun _ _ _ h => h) (Or.inl ⟨by rfl, ?_⟩) (by assumption) ?_
  rotate_left
  · (intro w hSw; (try dsimp only at hSw); go_simp; try with_reducible rfl)
  try simp only [Act.put, List.setIfInBounds_toArray, List.set_cons_zero, List.set_cons_succ]
  refine wpAnyH_take (i := 3) (oi := ⟨some 12, _, _, _, _, _⟩) (v := ?_) rfl (by kernel_rfl) (by kernel_rfl) (by kernel_rfl) (fun _ _ _ h => h) (Or.inl ⟨by rfl, ?_⟩) (by assumption) ?_
  rotate_left
  · (intro w hSw; (try dsimp only at hSw); go_simp; try with_reducible rfl)
  try simp only [Act.put, List.setIfInBounds_toArray, List.set_cons_zero, List.set_cons_succ]
  refine wpAnyH_take (i := 4) (oi := ⟨some 13, _, _, _, _, _⟩) (v := ?_) rfl (by kernel_rfl) (by kernel_rfl) (by kernel_rfl) (fun _ _ _ h => h) (Or.inl ⟨by rfl, ?_⟩) (by assumption) ?_
  rotate_left
  · (intro w hSw; (try dsimp only at hSw); go_simp; try with_reducible rfl)
  try simp only [Act.put, List.setIfInBounds_toArray, List.set_cons_zero, List.set_cons_succ]
  refine wpAnyH_ready (rs := [1]) (by kernel_rfl) (by simp) ?_
  refine AllReadyH.cons (o := ⟨some 10, _, _, _, _, _⟩) rfl (fun K hK => ?_) AllReadyH.nil
  go_simp
  refine (map_Len (.agg #[.slice a n c]) E _ (HM.out.below (below_step B3 hBc))).mono ?_
  rintro e w' ⟨rfl, hBx⟩
  have hBc := below_step hBc hBx
  go_wp2_with fail
  refine hK.out _ _ ?_ (fun hHeldX => ?_)
  · exact ⟨(hBc.cell (p := ⟨w.heap.size, 0, none⟩) p0).trans c0, (hBc.cell (p := ⟨w.heap.size + 1, 0, none⟩) p1).trans c1⟩
  clear hK K hHeld
  rename _ => hHeld
  try simp only [Act.put, List.setIfInBounds_toArray, List.set_cons_zero, List.set_cons_succ]
  refine wpAnyH_take (i := 5) (oi := ⟨some 14, _, _, _, _, _⟩) (v := ?_) rfl (by kernel_rfl) (by kernel_rfl) (by kernel_rfl) (fun _ _ _ h => h) (Or.inl ⟨by rfl, ?_⟩) (by assumption) ?_
  rotate_left
  · (intro w hSw; (try dsimp only at hSw); go_simp; try with_reducible rfl)
  try simp only [Act.put, List.setIfInBounds_toArray, List.set_cons_zero, List.set_cons_succ]
  refine wpAnyH_done (by kernel_rfl) ?_ _
  refine hKx _ _ ?_
  have B4 := Lib.hid (below_step B3 hBc)
  have b2 := boxed_below b2 hBc (by omega)
  have c0 := (hBc.cell (p := ⟨w.heap.size, 0, none⟩) p0).trans c0
  have c1 := (hBc.cell (p := ⟨w.heap.size + 1, 0, none⟩) p1).trans c1
  have c2 := (hBc.cell (p := ⟨w.heap.size + 1, 1, none⟩) p1).trans c2
  have z4 := hBc.size
  clear hBc hHeld B3
  generalize w' = W4 at B4 b2 c0 c1 c2 z4 ⊢
  have c0a : ∀ o, (W4.alloc o).cell? ⟨w.heap.size, 0, none⟩ = some (.slice a n c) := fun o => by
    rw [World.cell?_alloc_lt _ _ _ (by show w.heap.size < W4.heap.size; omega)]; exact c0
  gi_wp2_with fail
  refine ⟨trivial, (callsIn_wide.2 (map_All _ E _ (HS.out.below (B4.out.alloc B4.out.size _)))).mono ?_⟩
  rintro e w' ⟨rfl, rfl⟩
  rw [World.size_alloc]
  gi_wp2_with fail
  have b5 := Boxed.new W4 3 (.int .i64 0)
  have b6 := Boxed.new (W4.alloc (.cells #[.int .i64 0] 3)) 39 (.slice a n c)
  rw [World.size_alloc] at b6
  have hB0 : Below W4.heap.size W4 ((W4.alloc (.cells #[.int .i64 0] 3)).alloc (.cells #[.slice a n c] 39)) := ((Below.refl _ W4).alloc (Nat.le_refl _) _).alloc (by simp) _
  have hli : Hid (LiesE ((W4.alloc (.cells #[.int .i64 0] 3)).alloc (.cells #[.slice a n c] 39)) W4.heap.size (.slice a n c) E) :=
    ((HL.out.below B4.out).mono B4.out.size).below hB0
  refine wpIn_rangeFunc_ownG rfl (by omega) (gf := 44) (lb := #[.pointer (some ⟨W4.heap.size + 1, 0, none⟩)]) rfl trivial (enters_of Try.func44 (by kernel_rfl) rfl)
    (map_All_stops (6 - 1) (by omega) (W4.heap.size + 1) W4.heap.size (.slice a n c) E (by omega) _ (by simp only [World.size_alloc]; omega) (by simp only [World.size_alloc]; omega) b6.cell hli.out) belowK_t (belowK_b (by simp only [World.size_alloc]; omega)) (Below.refl _ _) (fun _ => rfl)
    (fun (pre : List Ent) W => (Boxed W W4.heap.size 3 (.int .i64 (pre.length : Int)) ∧ pre <+: E) ∧ Below W4.heap.size W4 W)
    (fun _ pre _ => ¬ (pre <+: E))
    (OwnFrom.and (OwnFrom.and (Own.from (boxed_own W4.heap.size 3 (fun pre : List Ent => .int .i64 (pre.length : Int))) _) (ownFrom_pure _ (fun pre : List Ent => pre <+: E))) (ownFrom_below (Nat.le_refl _) (by simp only [World.size_alloc]; omega)))
    (fun _ => ownFrom_pure _ (fun pre : List Ent => ¬ (pre <+: E)))
    ⟨⟨b5.alloc _, List.nil_prefix⟩, hB0⟩
    (fun x => { tmps := #[.agg #[.slice a n c], .agg #[.slice ka E.length kc, .slice va E.length vc], .pointer (some ⟨w.heap.size, 0, none⟩), .pointer (some ⟨w.heap.size + 1, 0, none⟩), .pointer (some ⟨w.heap.size + 1 + 1, 0, none⟩), .pointer (some ⟨W4.heap.size, 0, none⟩), .func (.func 44) #[] #[.pointer (some ⟨W4.heap.size + 1, 0, none⟩)], keyV x.1, .int .i64 x.2, .agg #[.slice a n c], .int .i64 (E.length : Int), .pointer (some ⟨w.heap.size + 1, 0, none⟩), .slice ka E.length kc, .int .i64 (E.length : Int), .bool false, .agg #[.slice a n c], .func (.func 44) #[] #[.pointer (some ⟨W4.heap.size + 1, 0, none⟩)], .func (.func 44) #[] #[.pointer (some ⟨W4.heap.size + 1, 0, none⟩)], .bool false, .func (.func 44) #[] #[.pointer (some ⟨W4.heap.size + 1, 0, none⟩)], keyV x.1, .int .i64 x.2, undef, undef, undef, undef, undef, undef, undef, undef, undef, undef, undef, undef, undef, undef, undef, undef, undef, undef, undef, undef, undef, undef, undef, undef, undef, undef, undef, undef, undef, undef], defers := [] }) ?assign ?body ?done ?stop
  case assign =>
    intro l x W K hK
    gi_wp2
    exact hK
  case body =>
    rintro l pre x W ⟨⟨hbk, hpre⟩, hB⟩ hlt
    have HP := Lib.hid hpre
    clear hpre
    have ck := hbk.cell
    have fk := hbk.frozen
    have hbs := hB.size
    obtain ⟨p, hp⟩ : ∃ p, E[pre.length]? = some p := ⟨_, List.getElem?_eq_getElem hlt⟩
    obtain ⟨b, off, rfl, hb, f0⟩ := K1.out _ p hp
    obtain ⟨b', off', rfl, hb', f1⟩ := V1.out _ p hp
    have d1 := (hB.cell (p := ⟨w.heap.size + 1, 0, none⟩) (by show w.heap.size + 1 < W4.heap.size; omega)).trans c1
    have d2 := (hB.cell (p := ⟨w.heap.size + 1, 1, none⟩) (by show w.heap.size + 1 < W4.heap.size; omega)).trans c2
    have BW := B4.out.trans (hB.mono B4.out.size)
    have e0 := (BW.cell (p := ⟨b, off + pre.length, none⟩) hb).trans f0
    have e1 := (BW.cell (p := ⟨b', off' + pre.length, none⟩) hb').trans f1
    have br := boxed_below b2 hB (by omega)
    have cr := br.cell
    have fr := br.frozen
    have HPP := Lib.hid hp
    clear hp f0 f1 BW
    obtain ⟨pk, pv⟩ := p
    obtain ⟨xk, xv⟩ := x
    dsimp only at e0 e1 ⊢
    by_cases h1 : xk = pk
    · subst h1
      by_cases h2 : xv = pv
      · subst h2
        gi_wp2
        refine ⟨(KeepsOthers.setCell _ _ _).from _, (Below.refl _ _).setCell (p := ⟨W4.heap.size, 0, none⟩) (Nat.le_refl _) _, ⟨?_, prefix_snoc HP.out HPP.out⟩, hB.setCell (p := ⟨W4.heap.size, 0, none⟩) (Nat.le_refl _) _⟩
        have := hbk.set (.int .i64 ((pre.length : Int) + 1))
        simpa using this
      · have h3 : (xv == pv) = false := by simpa using h2
        have h4 : (xv != pv) = true := by simpa using h2
        have H2 := Lib.hid h2
        clear h2
        gi_wp2
        refine ⟨(KeepsOthers.setCell _ _ _).from _, fun hh => ?_⟩
        have := prefix_at hh
        rw [HPP.out] at this
        cases this
        exact H2.out rfl
    · have h3 : (xk == pk) = false := by simpa using h1
      have H1 := Lib.hid h1
      clear h1
      gi_wp2
      refine ⟨(KeepsOthers.setCell _ _ _).from _, fun hh => ?_⟩
      have := prefix_at hh
      rw [HPP.out] at this
      cases this
      exact H1.out rfl
  case done =>
    rintro D ys W hD rfl ⟨⟨hbk, _⟩, hB⟩ hK
    have ck := hbk.cell
    have hbs := hB.size
    have d1 := (hB.cell (p := ⟨w.heap.size + 1, 0, none⟩) (by show w.heap.size + 1 < W4.heap.size; omega)).trans c1
    have br := boxed_below b2 hB (by omega)
    have cr := br.cell
    have fr := br.frozen
    have hD : W4.heap.size ≤ D := by simp at hD; omega
    gi_wp2
    have hK' : ∀ u, (W.setCell ⟨w.heap.size + 1 + 1, 0, none⟩ u).heap[D]? = some (.deferred (some [])) := fun u => (KeepsOthers.setCell W ⟨w.heap.size + 1 + 1, 0, none⟩ u).same D _ hK rfl
    refine ⟨by simp, .inl ⟨_, _, rfl, run_takeDeferred (hK' _), ?_⟩⟩
    have k1 : ∀ u, ((W.setCell ⟨w.heap.size + 1 + 1, 0, none⟩ u).putObj D (.deferred none)).cell? ⟨w.heap.size + 1 + 1, 0, none⟩ = some u := fun u => cell_kept (br.set u).cell (grownBy_putObj' _ D (.deferred none)) (fun r e => by cases e; exact ⟨_, hK' u, rfl⟩)
    refine ⟨.bool true, ?_, rfl, (B4.out.trans (hB.mono B4.out.size)).trans (((Below.refl w.heap.size W).setCell (p := ⟨w.heap.size + 1 + 1, 0, none⟩) (by show w.heap.size ≤ w.heap.size + 1 + 1; omega) _).trans (belowK_b (w := w) (Nat.le_refl _) _ D _ _ (by omega) (hK' _) rfl rfl))⟩
    simp [results, Try.f24, go_sem, k1]
  case stop =>
    rintro D c pre W _ hsp h _
    exact (h hsp).elim

end Go.Proofs.Ytlfehhegkpoojaa
