/- Layer 13 (package trie): how many nodes are unlike another node's. Made by tools/gen_trieu13.py. -/
import Derived.Test.YtmfejpbijllojaaTrieI13
import Derived.Test.YtmfejpbijllojaaAll3
import Derived.Test.YtmfejpbijllojaaHeldIn
import Derived.LaidEqlPtr
namespace Go.Proofs.Ytmfejpbijllojaa
open Go.RowKit Go.Shelf

attribute [local go_sem] Oper.semAt_some
/-- What one kid counts. -/
def kcZ (F G : Fo) (p : Ent) : Nat := ndC (F.get p.1) (G.get p.1)
theorem cnt_le : ∀ (F G : Fo), F.cnt G ≤ F.sz
  | .nil, _ => Nat.le_refl _
  | .cons k b L F R, G => by
    have h1 := cnt_le F (ndF (G.get k))
    have h2 := cnt_le R G
    simp only [Fo.cnt, Fo.sz]
    split <;> omega
theorem ndC_le (o old : Nd) : ndC o old ≤ ndN o := by
  cases o with
  | none => exact Nat.le_refl _
  | some x =>
    have := cnt_le x.2.2 (ndF old)
    simp only [ndC, ndN]
    split <;> omega
theorem cnt_sum : ∀ {F G : Fo}, F.ok → (F.ents.map (kcZ F G)).sum = F.cnt G
  | .nil, _, _ => rfl
  | .cons k b L F R, G, h => by
    have ih := cnt_sum (F := R) (G := G) h.2.2.2.1
    have e : R.ents.map (kcZ (.cons k b L F R) G) = R.ents.map (kcZ R G) := List.map_congr_left fun p hp => by
      have hne : k ≠ p.1 := fun e => out_of h.2.2.2.2 p hp e.symm
      simp only [kcZ, Fo.get, if_neg hne]
    have e1 : kcZ (.cons k b L F R) G (k, (b : Int)) = if ndB (G.get k) = some b then 0 else 1 + F.cnt (ndF (G.get k)) := by
      simp only [kcZ, Fo.get, if_pos, ndC]
    rw [Fo.ents, List.map_cons, List.sum_cons, e, ih, e1, Fo.cnt]
theorem sum_bound {f : Ent → Nat} {M : Nat} (h : ∀ p, f p ≤ M) : ∀ E : List Ent, (E.map f).sum ≤ M * E.length
  | [] => by simp
  | p :: E => by
    have h1 := h p
    have h2 := sum_bound h E
    rw [List.map_cons, List.sum_cons, List.length_cons, Nat.mul_succ]; omega
theorem ent_ptr {F : Fo} {p : Ent} (h : F.ok) (hp : p ∈ F.ents) : ndP (F.get p.1) = ptrV p.2 ∧ ∃ x, F.get p.1 = some x := by
  obtain ⟨b, e, hb⟩ := Alike.self h p hp
  cases hg : F.get p.1 with
  | none => rw [hg] at hb; simp [ndB] at hb
  | some x =>
    rw [hg] at hb
    simp [ndB] at hb
    refine ⟨?_, x, rfl⟩
    rw [e, ← hb]; simp [ndP, ptrV]
theorem ndP_ptr (o : Nd) : ndP o = .pointer ((ndB o).map fun b => ⟨b, 0, none⟩) := by cases o <;> rfl
theorem keeps_below13 {W W' : World} (h : Below W.heap.size W W') : KeepsOthers W W' := ⟨h.size, fun k _ hk _ => (h.block k (Array.getElem?_eq_some_iff.1 hk).1).trans hk⟩
theorem keep_end13 {W15 W2 cur : World} {B N wz : Nat} {k u u' s : Value} (M : Nat) (hu : u = u') (hO : Only (fun k => k = B ∨ N ≤ k) W15 W2) (hBW : Below W2.heap.size W2 cur) (hb : Blk 3 W2 B [k]) (hoff : ∀ g off n c, s = .slice (some ⟨g, off, none⟩) n c → g < wz) (hwB : wz ≤ B) :
    KeepsFrom M W2 (cur.setCell ⟨B, 0, none⟩ u) ∧ KpS s W2 (cur.setCell ⟨B, 0, none⟩ u) ∧ Blk 3 (cur.setCell ⟨B, 0, none⟩ u) B [u'] ∧ Only (fun k => k = B ∨ N ≤ k) W15 (cur.setCell ⟨B, 0, none⟩ u) :=
  ⟨((keeps_below13 hBW).trans (KeepsOthers.setCell _ _ _)).from M, kpS_only (S := fun k => k = B) ((Only.of_below hBW (fun k => k = B)).setCell (p := ⟨B, 0, none⟩) (.inl rfl) u) (fun g off n c hs e => by have := hoff g off n c hs; omega),
    hu ▸ (hb.below hBW hb.lt).set 0 u, (hO.trans (Only.of_below hBW _)).setCell (p := ⟨B, 0, none⟩) (.inl (.inl rfl)) u⟩

theorem run_eql_nil (b : Nat) (W : World) : Sem.run Try.prog (binOp BinOp.eql 25 (.pointer (some ⟨b, 0, none⟩)) (.pointer none)) W = .ok (.bool false) W := by kernel_rfl
theorem NdIs.blk {S : Nat → Prop} {w : World} {b : Nat} {L : List Int} {E : List Ent} {z : Nat} (h : NdIs S w b L E z) : ∃ l, Blk 72 w b l := by
  obtain ⟨_, _, _, _, _, _, h, _⟩ := h
  exact ⟨_, h⟩
theorem eql_other {w : World} {b c : Nat} {o : Obj} (hb : ∃ l, Blk 72 w b l) (hc : ∃ l, Blk 72 w c l) (hne : b ≠ c) :
    Sem.run Try.prog (binOp BinOp.eql 25 (.pointer (some ⟨b, 0, none⟩)) (.pointer (some ⟨c, 0, none⟩))) (w.alloc o) = .ok (.bool false) (w.alloc o) := by
  obtain ⟨j, hj, hs⟩ : ∃ j, Try.prog.info? 72 = some j ∧ j.size ≠ 0 := by
    obtain ⟨j, hj⟩ := Option.isSome_iff_exists.1 (show (Try.prog.info? 72).isSome = true by kernel_rfl)
    refine ⟨j, hj, ?_⟩
    have h : (Try.prog.info? 72).map (fun i => decide (i.size ≠ 0)) = some true := by kernel_rfl
    rw [hj] at h
    simpa using h
  obtain ⟨l, hl⟩ := hb
  obtain ⟨m, hm⟩ := hc
  exact run_eql_ptr_other _ Try.underlying25 hj hs (fun e => hne (by injection e)) (hl.alloc o) (hm.alloc o)

def Unlike (S : Nat → Prop) (o : Nd) : Prop := ∀ (old : Nd) (w : World), NodeIs S w o → NodeIs S w old → okN o → ndN o ≤ 4000 → ndN old ≤ 4000 →
  Calls Try.prog 26 #[ndP o, ndP old] w fun e w' => e = .returned (.int .i64 (ndC o old : Int)) ∧ Below w.heap.size w w'
theorem unlike_none {S : Nat → Prop} : Unlike S none := by
  intro old w _ _ _ _ _
  rw [ndP_ptr old]
  show Calls Try.prog 26 #[.pointer none, _] w _
  go_enter Try.func26, Try.ntmps26
  go_wp2
  go_ret
  exact ⟨rfl, new_below _ _⟩
theorem unlike_same (b : Nat) (w : World) : Calls Try.prog 26 #[.pointer (some ⟨b, 0, none⟩), .pointer (some ⟨b, 0, none⟩)] w fun e w' => e = .returned (.int .i64 0) ∧ Below w.heap.size w w' := by
  obtain ⟨j, hj⟩ := Option.isSome_iff_exists.1 (show (Try.prog.info? 72).isSome = true by kernel_rfl)
  have heq := fun W => run_eql_ptr_same W (P := Try.prog) (tp := 25) (te := 72) ⟨b, 0, none⟩ Try.underlying25 hj
  clear hj
  go_enter Try.func26, Try.ntmps26
  go_wp2
  go_ret
  exact ⟨rfl, new_below _ _⟩

set_option maxRecDepth 100000 in
set_option maxHeartbeats 4000000 in
theorem unlike_of {S : Nat → Prop} (x : Nat × List Int × Fo) (old : Nd) (pa : Option Addr) (hpa : ndP old = .pointer pa) (w : World) (hx : NodeIs S w (some x)) (ho : NodeIs S w old) (hok : okN (some x)) (hN : ndN (some x) ≤ 4000) (hM : ndN old ≤ 4000)
    (heq : Sem.run Try.prog (binOp BinOp.eql 25 (.pointer (some ⟨x.1, 0, none⟩)) (.pointer pa)) (w.alloc (.cells #[.pointer pa] 25)) = .ok (.bool false) (w.alloc (.cells #[.pointer pa] 25)))
    (ih : ∀ q : Nd, ndN q < ndN (some x) → Unlike S q) :
    Calls Try.prog 26 #[.pointer (some ⟨x.1, 0, none⟩), .pointer pa] w fun e w' => e = .returned (.int .i64 ((1 + x.2.2.cnt (ndF old) : Nat) : Int)) ∧ Below w.heap.size w w' := by
  obtain ⟨s2, hks, hcs, hcall⟩ := nd_Kids _ _ _ _ w hx.pis
  obtain ⟨E, hE⟩ : ∃ E, E = x.2.2.ents := ⟨_, rfl⟩
  replace hks : KidsIn w (.agg #[s2]) E := by rw [hE]; exact hks
  have hElen : E.length ≤ 4000 := by
    have h1 := fo_sz x.2.2
    have h2 : ndN (some x) = 1 + x.2.2.sz := rfl
    rw [hE]; omega
  have KW := Lib.hid hks
  have HP : Hid (∀ p ∈ E, (ndP (x.2.2.get p.1) = ptrV p.2)) := Lib.hid fun p hp => (ent_ptr hok.2 (hE ▸ hp)).1
  have HKid : Hid (∀ (k : Key) W, Below w.heap.size w W → Calls Try.prog 28 #[.pointer pa, keyV k] W fun e w' => e = .returned (ndP ((ndF old).get k)) ∧ Below W.heap.size W w') := Lib.hid fun k W hW => by
    rw [← hpa, ← kidV_get]
    exact nd_Kid _ _ _ _ k _ (ho.below hW).pis (by have h1 := fo_sz (ndF old); have h2 := ndN_F old; omega)
  have HUn : Hid (∀ p ∈ E, ∀ W, Below w.heap.size w W → Calls Try.prog 26 #[ptrV p.2, ndP ((ndF old).get p.1)] W fun e w' => e = .returned (.int .i64 (kcZ x.2.2 (ndF old) p : Int)) ∧ Below W.heap.size W w') := Lib.hid fun p hp W hW => by
    rw [← HP.out p hp]
    have h1 := get_le p.1 x.2.2
    have h2 : ndN (some x) = 1 + x.2.2.sz := rfl
    exact ih (x.2.2.get p.1) (by omega) ((ndF old).get p.1) W ((FoIs.get p.1 hx.2).below hW) ((ho.kid p.1).below hW) (okN_get hok.2) (by omega) (Nat.le_trans (kid_le _ _) hM)
  have HKb : Hid (∀ p, kcZ x.2.2 (ndF old) p ≤ 4000) := Lib.hid fun p => by
    have h1 := get_le p.1 x.2.2
    have h2 : ndN (some x) = 1 + x.2.2.sz := rfl
    have h3 := ndC_le (x.2.2.get p.1) ((ndF old).get p.1)
    unfold kcZ; omega
  have HSum : Hid ((E.map (kcZ x.2.2 (ndF old))).sum = x.2.2.cnt (ndF old)) := Lib.hid (by rw [hE]; exact cnt_sum hok.2)
  have HCall := Lib.hid hcall
  clear hks hcs hcall hx ho hok hN hM ih hE hpa HP
  generalize kcZ x.2.2 (ndF old) = kc at *
  refine (callsIn_wide (n := 6)).1 ?_
  refine callsIn_of_wp_marks Try.func26 rfl trivial ?_ rfl
  simp only [Try.ntmps26, List.size_toArray, List.length_cons, List.length_nil, Nat.reduceAdd, Nat.reduceSub, Array.replicate_succ, Array.replicate_zero, List.push_toArray, List.append_toArray, List.nil_append, List.cons_append]
  gi_wp2_with fail
  obtain ⟨W2, hW2⟩ : ∃ W, W = (w.alloc (.cells #[.pointer pa] 25)).alloc (.cells #[.int .i64 1] 3) := ⟨_, rfl⟩
  have b3 : Blk 25 W2 w.heap.size [.pointer pa] := by rw [hW2]; exact Blk.alloc Blk.new _
  have b5 : Blk 3 W2 (w.heap.size + 1) [.int .i64 1] := by
    rw [hW2]
    have := Blk.new (W := w.alloc (.cells #[.pointer pa] 25)) (t := 3) (l := [.int .i64 1])
    rw [World.size_alloc] at this; exact this
  have B2 : Below w.heap.size w W2 := by rw [hW2]; exact below_step (new_below _ _) (new_below _ _)
  have z2 : w.heap.size + 1 < W2.heap.size := b5.lt
  rw [← hW2]
  clear hW2 heq
  refine ⟨trivial, (callsIn_wide.2 (HCall.out W2 B2)).mono ?_⟩
  rintro e w' ⟨W1, hB1, rfl, rfl⟩
  obtain ⟨W3, hW3⟩ : ∃ W, W = W1.alloc (.cells #[s2] 70) := ⟨_, rfl⟩
  have hB3 : Below W2.heap.size W2 W3 := by rw [hW3]; exact below_step hB1 (new_below _ _)
  have c3 : W3.cell? ⟨W1.heap.size, 0, none⟩ = some s2 := by rw [hW3]; simp
  have z3 : W1.heap.size < W3.heap.size := by rw [hW3]; simp
  have z1 := hB1.size
  rw [← hW3]
  have b3' := b3.below hB3 b3.lt
  have b5' := b5.below hB3 b5.lt
  have L3 : Below w.heap.size w W3 := below_step B2 hB3
  have LW3 := Lib.hid L3
  have HB3 := Lib.hid b3'
  clear hW3 hB1 hB3 b3 b5 B2 b3'
  gi_wp2_with fail
  obtain ⟨⟨s', hv, hp⟩, _⟩ := KW.out.below L3
  cases hv
  have hoffW : ∀ g off n c, s2 = .slice (some ⟨g, off, none⟩) n c → g < w.heap.size := by
    obtain ⟨⟨s', hv, hn'⟩, _⟩ := KW.out
    cases hv
    intro g off n c he
    rcases hn'.2 with ⟨hv, _⟩ | ⟨g', off', cap', hv, _, hlt, _⟩
    · rw [hv] at he; cases he
    · rw [hv] at he; cases he; exact hlt
  have HOF := Lib.hid hoffW
  clear hoffW L3
  refine wpIn_rangeFunc_ownG rfl (by omega) (gf := 79) (lb := #[.pointer (some ⟨W1.heap.size, 0, none⟩)]) rfl trivial (enters_of Try.func79 (by kernel_rfl) rfl)
    (kids_each_stops 5 (by omega) W1.heap.size s2 E (by omega) W3 (by omega) c3 hp) (fun h k => h.trans k) (fun W l o o' _ h h1 _ => kpS_book W l o o' h h1) (Below.refl _ _) (fun _ => rfl)
    (fun (pre : List { p : Ent // p ∈ E }) W => Blk 3 W (w.heap.size + 1) [.int .i64 ((1 + ((pre.map Subtype.val).map kc).sum : Nat) : Int)] ∧ Only (fun k => k = w.heap.size + 1 ∨ W3.heap.size ≤ k) W3 W)
    (fun _ _ _ => False)
    (OwnFrom.and (Own.from (blk_own 3 (w.heap.size + 1) (fun pre : List { p : Ent // p ∈ E } => [.int .i64 ((1 + ((pre.map Subtype.val).map kc).sum : Nat) : Int)])) _) (ownFrom_only12 (Nat.le_refl _) (fun k hk => .inr hk)))
    (fun _ _ _ _ _ hs _ _ => hs)
    ⟨b5', Only.refl _ _⟩
    (fun y => { tmps := #[.pointer (some ⟨x.1, 0, none⟩), .pointer pa, undef, .pointer (some ⟨w.heap.size, 0, none⟩), .int .i64 0, .pointer (some ⟨w.heap.size + 1, 0, none⟩), keyV y.1.1, ptrV y.1.2, .pointer (some ⟨x.1, 0, none⟩), .bool false, .bool false, .pointer (some ⟨x.1, 0, none⟩), .pointer pa, .bool false, .bool false, .pointer (some ⟨x.1, 0, none⟩), .func (.func 79) #[] #[.pointer (some ⟨W1.heap.size, 0, none⟩)], keyV y.1.1, ptrV y.1.2, undef, undef, undef, undef, undef, undef, undef, undef], defers := [] }) ?assign ?body ?done ?stop
  case assign =>
    intro l x W K hK
    gi_wp2
    exact hK
  case stop =>
    rintro D c pre W _ _ h _
    exact h.elim
  case done =>
    rintro D ys W hD hys ⟨hbk, hO⟩ hK
    have hcnt : 1 + ((ys.map Subtype.val).map kc).sum = 1 + x.2.2.cnt (ndF old) := by
      rw [show ys.map Subtype.val = E from hys, HSum.out]
    rw [hcnt] at hbk
    have ck := hbk.at (o := 0) rfl
    have hlow : Below w.heap.size w W := LW3.out.trans (hO.below LW3.out.size (fun k hk e => by have := LW3.out.size; omega))
    have HLW := Lib.hid hlow
    have hDw : w.heap.size ≤ D := by have := LW3.out.size; omega
    clear hys hcnt hbk hO hlow
    gi_wp2
    refine ⟨by simp, .inl ⟨_, _, rfl, run_takeDeferred hK, ?_⟩⟩
    exact ⟨_, results_tmp rfl _ _ _, rfl, HLW.out.trans (belowK_b (w := w) (Nat.le_refl _) W D _ _ hDw hK rfl rfl)⟩
  case body =>
    rintro l pre y W ⟨hbk, hO⟩ hlt
    have hlow : Below w.heap.size w W := LW3.out.trans (hO.below LW3.out.size (fun k hk e => by have := LW3.out.size; omega))
    have hb3 : Blk 25 W w.heap.size [.pointer pa] := HB3.out.only hO (fun e => by have := HB3.out.lt; omega)
    have LW := Lib.hid hlow
    have HO := Lib.hid hO
    obtain ⟨⟨yk, yv⟩, hy⟩ := y
    have HUy := Lib.hid (HUn.out (yk, yv) hy)
    obtain ⟨n, hn⟩ : ∃ n : Nat, 1 + ((pre.map Subtype.val).map kc).sum = n := ⟨_, rfl⟩
    have hnb : n ≤ 16000001 := by
      have h1 := sum_bound HKb.out (pre.map Subtype.val)
      rw [List.length_map] at h1
      have h2 : 4000 * pre.length ≤ 4000 * 4000 := Nat.mul_le_mul_left _ (by omega)
      omega
    obtain ⟨m, hm⟩ : ∃ m : Nat, kc (yk, yv) = m := ⟨_, rfl⟩
    have hmb : m ≤ 4000 := by rw [← hm]; exact HKb.out _
    have HN : Hid (1 + ((((pre ++ [⟨(yk, yv), hy⟩] : List { p : Ent // p ∈ E })).map Subtype.val).map kc).sum = n + m) := Lib.hid (by
      rw [List.map_append, List.map_append, List.sum_append, ← hn, ← hm]
      simp only [List.map_cons, List.map_nil, List.sum_cons, List.sum_nil]
      omega)
    rw [hn] at hbk
    rw [hm] at HUy
    have SX : Hid (∀ c, Below W.heap.size W c → c.cell? ⟨w.heap.size, 0, none⟩ = some (.pointer pa)) := Lib.hid fun c hc => (hb3.below hc hb3.lt).at (o := 0) rfl
    have SX2 : Hid (∀ c u, Below W.heap.size W c → (c.setCell ⟨w.heap.size + 1, 0, none⟩ u).cell? ⟨w.heap.size, 0, none⟩ = some (.pointer pa)) := Lib.hid fun c u hc => (World.cell?_setCell_far _ _ _ _ (by show w.heap.size + 1 ≠ w.heap.size; omega)).trans ((hb3.below hc hb3.lt).at (o := 0) rfl)
    have hC : Below W.heap.size W W.drew := (Below.refl _ _).drew
    have HBK := Lib.hid hbk
    clear hlow hO hn hm hb3
    gi_wp2_with fail
    refine wpIn_region_held_round (S := (fun w' => w'.cell? ⟨w.heap.size, 0, none⟩ = some (.pointer pa))) (by kernel_rfl) (by kernel_rfl) (fun h => by obtain ⟨_, _, h⟩ := h; exact h) (SX.out _ hC) (fun hHeld => ?_)
    refine wpAnyH_take (i := 1) (oi := ⟨some 20, _, _, _, _, _⟩) (v := ?_) rfl (by kernel_rfl) (by kernel_rfl) (by kernel_rfl) (fun _ _ _ h => h) (Or.inl ⟨by rfl, ?_⟩) (by assumption) ?_
    rotate_left
    · (intro w hSw; (try dsimp only at hSw); go_simp; try with_reducible rfl)
    try simp only [Act.put, List.setIfInBounds_toArray, List.set_cons_zero, List.set_cons_succ]
    refine wpAnyH_take (i := 2) (oi := ⟨some 21, _, _, _, _, _⟩) (v := ?_) rfl (by kernel_rfl) (by kernel_rfl) (by kernel_rfl) (fun _ _ _ h => h) (Or.inl ⟨by rfl, ?_⟩) (by assumption) ?_
    rotate_left
    · (intro w hSw; (try dsimp only at hSw); go_simp; try with_reducible rfl)
    try simp only [Act.put, List.setIfInBounds_toArray, List.set_cons_zero, List.set_cons_succ]
    refine wpAnyH_take (i := 3) (oi := ⟨some 22, _, _, _, _, _⟩) (v := ?_) rfl (by kernel_rfl) (by kernel_rfl) (by kernel_rfl) (fun _ _ _ h => h) (Or.inl ⟨by rfl, ?_⟩) (by assumption) ?_
    rotate_left
    · (intro w hSw; (try dsimp only at hSw); go_simp; try with_reducible rfl)
    try simp only [Act.put, List.setIfInBounds_toArray, List.set_cons_zero, List.set_cons_succ]
    refine wpAnyH_ready (rs := [0, 4]) (by kernel_rfl) (by simp) ?_
    refine AllReadyH.cons (o := ⟨some 19, _, _, _, _, _⟩) rfl (fun K hK => ?_) (AllReadyH.cons (o := ⟨some 23, _, _, _, _, _⟩) rfl (fun K hK => ?_) AllReadyH.nil)
    · have cX := (hbk.below hC hbk.lt).at (o := 0) rfl
      go_simp
      clear cX
      refine hK.out _ _ ?_ (fun hHeldX => ?_)
      · exact SX.out _ hC
      clear hK K hHeld
      rename _ => hHeld
      try simp only [Act.put, List.setIfInBounds_toArray, List.set_cons_zero, List.set_cons_succ]
      refine wpAnyH_ready (rs := [4]) (by kernel_rfl) (by simp) ?_
      refine AllReadyH.cons (o := ⟨some 23, _, _, _, _, _⟩) rfl (fun K hK => ?_) AllReadyH.nil
      go_simp
      refine (HKid.out yk _ (below_step LW.out hC)).mono ?_
      rintro e wx ⟨rfl, hBx⟩
      replace hC := below_step hC hBx
      clear hBx
      go_wp2_with fail
      refine hK.out _ _ ?_ (fun hHeldX => ?_)
      · exact SX.out _ hC
      clear hK K hHeld
      rename _ => hHeld
      try simp only [Act.put, List.setIfInBounds_toArray, List.set_cons_zero, List.set_cons_succ]
      refine wpAnyH_ready (rs := [5]) (by kernel_rfl) (by simp) ?_
      refine AllReadyH.cons (o := ⟨some 24, _, _, _, _, _⟩) rfl (fun K hK => ?_) AllReadyH.nil
      go_simp
      refine (HUy.out _ (below_step LW.out hC)).mono ?_
      rintro e wx ⟨rfl, hBx⟩
      replace hC := below_step hC hBx
      clear hBx
      go_wp2_with fail
      refine hK.out _ _ ?_ (fun hHeldX => ?_)
      · exact SX.out _ hC
      clear hK K hHeld
      rename _ => hHeld
      try simp only [Act.put, List.setIfInBounds_toArray, List.set_cons_zero, List.set_cons_succ]
      refine wpAnyH_take (i := 6) (oi := ⟨some 25, _, _, _, _, _⟩) (v := ?_) rfl (by kernel_rfl) (by kernel_rfl) (by kernel_rfl) (fun _ _ _ h => h) (Or.inl ⟨by rfl, ?_⟩) (by assumption) ?_
      rotate_left
      · (intro w hSw; (try dsimp only at hSw); go_simp; try with_reducible rfl)
      try simp only [Act.put, List.setIfInBounds_toArray, List.set_cons_zero, List.set_cons_succ]
      refine wpAnyH_ready (rs := [7]) (by kernel_rfl) (by simp) ?_
      refine AllReadyH.cons (o := ⟨none, _, _, _, _, _⟩) rfl (fun K hK => ?_) AllReadyH.nil
      have cX := (hbk.below hC hbk.lt).at (o := 0) rfl
      have fX := (hbk.below hC hbk.lt).frozen 0
      go_simp
      clear cX fX
      refine hK.out _ _ ?_ (fun hHeldX => ?_)
      · exact SX2.out _ _ hC
      clear hK K hHeld
      rename _ => hHeld
      try simp only [Act.put, List.setIfInBounds_toArray, List.set_cons_zero, List.set_cons_succ]
      refine wpAnyH_done (by kernel_rfl) ?_ _
      clear hHeld
      have HW := Lib.hid hC
      clear hC
      gi_wp2
      have hu : Value.int .i64 (IntKind.i64.wrap ((n : Int) + (m : Int))) = .int .i64 ((1 + ((((pre ++ [⟨(yk, yv), hy⟩] : List { p : Ent // p ∈ E })).map Subtype.val).map kc).sum : Nat) : Int) := by
        rw [HN.out, IntWalk.i64_in _ (by omega)]
        congr 1
      obtain ⟨q1, q2, q3, q4⟩ := keep_end13 _ hu HO.out HW.out HBK.out HOF.out (Nat.le_succ _)
      exact ⟨q1, q2, q3, q4⟩
    · go_simp
      refine (HKid.out yk _ (below_step LW.out hC)).mono ?_
      rintro e wx ⟨rfl, hBx⟩
      replace hC := below_step hC hBx
      clear hBx
      go_wp2_with fail
      refine hK.out _ _ ?_ (fun hHeldX => ?_)
      · exact SX.out _ hC
      clear hK K hHeld
      rename _ => hHeld
      try simp only [Act.put, List.setIfInBounds_toArray, List.set_cons_zero, List.set_cons_succ]
      refine wpAnyH_ready (rs := [0, 5]) (by kernel_rfl) (by simp) ?_
      refine AllReadyH.cons (o := ⟨some 19, _, _, _, _, _⟩) rfl (fun K hK => ?_) (AllReadyH.cons (o := ⟨some 24, _, _, _, _, _⟩) rfl (fun K hK => ?_) AllReadyH.nil)
      · have cX := (hbk.below hC hbk.lt).at (o := 0) rfl
        go_simp
        clear cX
        refine hK.out _ _ ?_ (fun hHeldX => ?_)
        · exact SX.out _ hC
        clear hK K hHeld
        rename _ => hHeld
        try simp only [Act.put, List.setIfInBounds_toArray, List.set_cons_zero, List.set_cons_succ]
        refine wpAnyH_ready (rs := [5]) (by kernel_rfl) (by simp) ?_
        refine AllReadyH.cons (o := ⟨some 24, _, _, _, _, _⟩) rfl (fun K hK => ?_) AllReadyH.nil
        go_simp
        refine (HUy.out _ (below_step LW.out hC)).mono ?_
        rintro e wx ⟨rfl, hBx⟩
        replace hC := below_step hC hBx
        clear hBx
        go_wp2_with fail
        refine hK.out _ _ ?_ (fun hHeldX => ?_)
        · exact SX.out _ hC
        clear hK K hHeld
        rename _ => hHeld
        try simp only [Act.put, List.setIfInBounds_toArray, List.set_cons_zero, List.set_cons_succ]
        refine wpAnyH_take (i := 6) (oi := ⟨some 25, _, _, _, _, _⟩) (v := ?_) rfl (by kernel_rfl) (by kernel_rfl) (by kernel_rfl) (fun _ _ _ h => h) (Or.inl ⟨by rfl, ?_⟩) (by assumption) ?_
        rotate_left
        · (intro w hSw; (try dsimp only at hSw); go_simp; try with_reducible rfl)
        try simp only [Act.put, List.setIfInBounds_toArray, List.set_cons_zero, List.set_cons_succ]
        refine wpAnyH_ready (rs := [7]) (by kernel_rfl) (by simp) ?_
        refine AllReadyH.cons (o := ⟨none, _, _, _, _, _⟩) rfl (fun K hK => ?_) AllReadyH.nil
        have cX := (hbk.below hC hbk.lt).at (o := 0) rfl
        have fX := (hbk.below hC hbk.lt).frozen 0
        go_simp
        clear cX fX
        refine hK.out _ _ ?_ (fun hHeldX => ?_)
        · exact SX2.out _ _ hC
        clear hK K hHeld
        rename _ => hHeld
        try simp only [Act.put, List.setIfInBounds_toArray, List.set_cons_zero, List.set_cons_succ]
        refine wpAnyH_done (by kernel_rfl) ?_ _
        clear hHeld
        have HW := Lib.hid hC
        clear hC
        gi_wp2
        have hu : Value.int .i64 (IntKind.i64.wrap ((n : Int) + (m : Int))) = .int .i64 ((1 + ((((pre ++ [⟨(yk, yv), hy⟩] : List { p : Ent // p ∈ E })).map Subtype.val).map kc).sum : Nat) : Int) := by
          rw [HN.out, IntWalk.i64_in _ (by omega)]
          congr 1
        obtain ⟨q1, q2, q3, q4⟩ := keep_end13 _ hu HO.out HW.out HBK.out HOF.out (Nat.le_succ _)
        exact ⟨q1, q2, q3, q4⟩
      · go_simp
        refine (HUy.out _ (below_step LW.out hC)).mono ?_
        rintro e wx ⟨rfl, hBx⟩
        replace hC := below_step hC hBx
        clear hBx
        go_wp2_with fail
        refine hK.out _ _ ?_ (fun hHeldX => ?_)
        · exact SX.out _ hC
        clear hK K hHeld
        rename _ => hHeld
        try simp only [Act.put, List.setIfInBounds_toArray, List.set_cons_zero, List.set_cons_succ]
        refine wpAnyH_ready (rs := [0]) (by kernel_rfl) (by simp) ?_
        refine AllReadyH.cons (o := ⟨some 19, _, _, _, _, _⟩) rfl (fun K hK => ?_) AllReadyH.nil
        have cX := (hbk.below hC hbk.lt).at (o := 0) rfl
        go_simp
        clear cX
        refine hK.out _ _ ?_ (fun hHeldX => ?_)
        · exact SX.out _ hC
        clear hK K hHeld
        rename _ => hHeld
        try simp only [Act.put, List.setIfInBounds_toArray, List.set_cons_zero, List.set_cons_succ]
        refine wpAnyH_take (i := 6) (oi := ⟨some 25, _, _, _, _, _⟩) (v := ?_) rfl (by kernel_rfl) (by kernel_rfl) (by kernel_rfl) (fun _ _ _ h => h) (Or.inl ⟨by rfl, ?_⟩) (by assumption) ?_
        rotate_left
        · (intro w hSw; (try dsimp only at hSw); go_simp; try with_reducible rfl)
        try simp only [Act.put, List.setIfInBounds_toArray, List.set_cons_zero, List.set_cons_succ]
        refine wpAnyH_ready (rs := [7]) (by kernel_rfl) (by simp) ?_
        refine AllReadyH.cons (o := ⟨none, _, _, _, _, _⟩) rfl (fun K hK => ?_) AllReadyH.nil
        have cX := (hbk.below hC hbk.lt).at (o := 0) rfl
        have fX := (hbk.below hC hbk.lt).frozen 0
        go_simp
        clear cX fX
        refine hK.out _ _ ?_ (fun hHeldX => ?_)
        · exact SX2.out _ _ hC
        clear hK K hHeld
        rename _ => hHeld
        try simp only [Act.put, List.setIfInBounds_toArray, List.set_cons_zero, List.set_cons_succ]
        refine wpAnyH_done (by kernel_rfl) ?_ _
        clear hHeld
        have HW := Lib.hid hC
        clear hC
        gi_wp2
        have hu : Value.int .i64 (IntKind.i64.wrap ((n : Int) + (m : Int))) = .int .i64 ((1 + ((((pre ++ [⟨(yk, yv), hy⟩] : List { p : Ent // p ∈ E })).map Subtype.val).map kc).sum : Nat) : Int) := by
          rw [HN.out, IntWalk.i64_in _ (by omega)]
          congr 1
        obtain ⟨q1, q2, q3, q4⟩ := keep_end13 _ hu HO.out HW.out HBK.out HOF.out (Nat.le_succ _)
        exact ⟨q1, q2, q3, q4⟩
theorem unlike_all {S : Nat → Prop} : ∀ (n : Nat) (o : Nd), ndN o ≤ n → Unlike S o
  | 0, o, h => by
    cases o with
    | none => exact unlike_none
    | some x => exact absurd h (by simp only [ndN]; omega)
  | n + 1, o, h => by
    cases o with
    | none => exact unlike_none
    | some x =>
      intro old w hx ho hok hN hM
      have ih : ∀ q : Nd, ndN q < ndN (some x) → Unlike S q := fun q hq => unlike_all n q (by omega)
      cases old with
      | none =>
        refine (unlike_of x none none rfl w hx ho hok hN hM ?_ ih).mono ?_
        · exact run_eql_nil x.1 _
        · rintro e w' ⟨rfl, hB⟩
          exact ⟨by simp [ndC, ndB], hB⟩
      | some y =>
        by_cases e : x.1 = y.1
        · have := unlike_same x.1 w
          show Calls Try.prog 26 #[.pointer (some ⟨x.1, 0, none⟩), .pointer (some ⟨y.1, 0, none⟩)] w _
          rw [← e]
          refine this.mono ?_
          rintro e' w' ⟨rfl, hB⟩
          exact ⟨by simp [ndC, ndB, e], hB⟩
        · refine (unlike_of x (some y) (some ⟨y.1, 0, none⟩) rfl w hx ho hok hN hM ?_ ih).mono ?_
          · exact eql_other hx.1.blk ho.1.blk e
          · rintro e' w' ⟨rfl, hB⟩
            exact ⟨by simp [ndC, ndB, Ne.symm e], hB⟩
end Go.Proofs.Ytmfejpbijllojaa
