/- Layer 14, the law: WalkStops. Made by tools/gen_stops14.py. -/
import Derived.Test.YtabgedmocdjkcaaLaw14
namespace Go.Proofs.Ytabgedmocdjkcaa
open Go.RowKit Go.Shelf

theorem two5 (W : World) (few : Int) : ∃ W1, (W.alloc (.cells #[.int .u8 few] 5)).alloc (.cells #[.bool false] 4) = W1 ∧ Below W.heap.size W W1 ∧ W1.heap.size = W.heap.size + 2 ∧ Boxed W1 W.heap.size 5 (.int .u8 few) ∧ Boxed W1 (W.heap.size + 1) 4 (.bool false) := by
  have b2 := Boxed.new (W.alloc (.cells #[.int .u8 few] 5)) 4 (.bool false)
  rw [World.size_alloc] at b2
  exact ⟨_, rfl, below_step (new_below _ _) (new_below _ _), by simp, (Boxed.new _ _ _).alloc _, b2⟩
theorem two8 (W : World) (v u : Value) : ∃ W1, (W.alloc (.cells #[v] 22)).alloc (.cells #[u] 23) = W1 ∧ Below W.heap.size W W1 ∧ W1.heap.size = W.heap.size + 2 ∧ Boxed W1 W.heap.size 22 v ∧ Boxed W1 (W.heap.size + 1) 23 u := by
  have b2 := Boxed.new (W.alloc (.cells #[v] 22)) 23 u
  rw [World.size_alloc] at b2
  exact ⟨_, rfl, below_step (new_below _ _) (new_below _ _), by simp, (Boxed.new _ _ _).alloc _, b2⟩
theorem zip_fs : ∀ L : List Pr, (L.map Prod.fst).zip (L.map Prod.snd) = L
  | [] => rfl
  | x :: r => by rw [List.map_cons, List.map_cons, List.zip_cons_cons, zip_fs r]
theorem ends5 {W Wx Wz : World} {D B6 : Nat} (hBW : Below W.heap.size W Wx) (hz : Below Wx.heap.size Wx Wz) (h6 : Boxed Wx B6 4 (.bool false)) (hB6 : W.heap.size ≤ B6) (hD : W.heap.size ≤ D) (hne : D ≠ B6) (hK : Wx.heap[D]? = some (.deferred (some []))) :
    (Wz.setCell ⟨B6, 0, none⟩ (.bool true)).heap[D]? = some (.deferred (some [])) ∧ ((Wz.setCell ⟨B6, 0, none⟩ (.bool true)).putObj D (.deferred none)).cell? ⟨B6, 0, none⟩ = some (.bool true) ∧ Below W.heap.size W ((Wz.setCell ⟨B6, 0, none⟩ (.bool true)).putObj D (.deferred none)) := by
  have hl : D < Wx.heap.size := (Array.getElem?_eq_some_iff.1 hK).1
  have o1 : Only (fun k => k = B6) Wz (Wz.setCell ⟨B6, 0, none⟩ (.bool true)) := (Only.refl (fun k => k = B6) Wz).setCell (p := ⟨B6, 0, none⟩) (.inl rfl) _
  have b6 := (boxed_below h6 hz h6.lt).set (.bool true)
  have o2 : Only (fun k => k = D) (Wz.setCell ⟨B6, 0, none⟩ (.bool true)) ((Wz.setCell ⟨B6, 0, none⟩ (.bool true)).putObj D (.deferred none)) := (Only.refl (fun k => k = D) _).putObj _ (.inl rfl)
  have zz := hz.size
  refine ⟨(o1.block D (by omega) hne).trans ((Only.of_below hz (fun _ => False)).block D hl id |>.trans hK), (boxO b6 o2 fun e => hne e.symm).cell, ?_⟩
  have hWx := hBW.size
  exact (below_step hBW hz).trans (((o1.mono (T := fun k => k = B6 ∨ k = D) fun _ _ e => .inl e).trans (o2.mono fun _ _ e => .inr e)).below (by omega) fun k hk e => by rcases e with e | e <;> omega)
attribute [local go_sem] Oper.semAt_some
set_option maxRecDepth 100000 in
set_option maxHeartbeats 4000000 in
theorem stops14 {a1 a2 : Option Addr} {T : List Key} {N : List Int} {c1 c2 : Nat} {few : Int} (W : World) (hT : TextsIn W a1 T) (hmx : T.length ≤ 9223372036854775807) (hN : ListIn numV W a2 N) (hf0 : 0 ≤ few) (hf1 : few ≤ 255) :
    Calls Try.prog 4 #[.slice a1 T.length c1, .slice a2 N.length c2, .int .u8 few] W fun e w' => e = .returned (.bool true) ∧ Below W.heap.size W w' := by
  obtain ⟨W1, hW1, B1, z1, b5, b6⟩ := two5 W few
  refine (callsIn_wide (n := 9)).1 ?_
  refine callsIn_of_wp_marks Try.func4 rfl trivial ?_ rfl
  simp only [Try.ntmps4, List.size_toArray, List.length_cons, List.length_nil, Nat.reduceAdd, Nat.reduceSub, Array.replicate_succ, Array.replicate_zero, List.push_toArray, List.append_toArray, List.nil_append, List.cons_append]
  gi_wp2_with fail
  try rw [hW1]
  clear hW1
  refine ⟨trivial, (callsIn_wide.2 (awake14 W1)).mono ?_⟩
  rintro e W2 ⟨rfl, hB2⟩
  have b5 := boxed_below b5 hB2 b5.lt
  have b6 := boxed_below b6 hB2 b6.lt
  have B2 := below_step B1 hB2
  clear hB2
  gi_wp2_with fail
  refine ⟨trivial, (callsIn_wide.2 (great14 a1 c1 T W2 (hT.below B2) hmx)).mono ?_⟩
  rintro e W3 ⟨rfl, rfl⟩
  cases hgr : greatZ T
  case true =>
    have k6 := b6.cell
    have f6 := b6.frozen
    have HB : Hid (Below W.heap.size W (W2.setCell ⟨W.heap.size + 1, 0, none⟩ (.bool true))) := Lib.hid (B2.setCell (p := ⟨W.heap.size + 1, 0, none⟩) (by show W.heap.size ≤ W.heap.size + 1; omega) _)
    have q6 := (b6.set (.bool true)).cell
    clear hT hN hgr B2 B1
    gi_wp2_with fail
    exact ⟨.bool true, by simp [results, Try.f4, go_sem, q6], rfl, HB.out⟩
  case false =>
    obtain ⟨hT1, hT2⟩ := great_no hgr
    clear hgr
    gi_wp2_with fail
    refine ⟨trivial, (callsIn_wide.2 (law_of (hT.below B2) (hN.below B2) (by omega) hT2)).mono ?_⟩
    rintro e W3 ⟨o, rfl, hwt, hnd, hB3⟩
    obtain ⟨P, hP⟩ : ∃ P, P = T.zip N := ⟨_, rfl⟩
    have hPl : P.length ≤ 100 := by rw [hP, List.length_zip]; omega
    have hPx : ∀ x ∈ P, x.1.length ≤ 100 := fun x hx => by
      rw [hP] at hx
      exact hT2 _ (List.of_mem_zip hx).1
    rw [← hP] at hwt
    have b5 := boxed_below b5 hB3 b5.lt
    have b6 := boxed_below b6 hB3 b6.lt
    have B3 := below_step B2 hB3
    have hpr : prs o = refZ P := prs_ref hwt
    have htl := tells_of hwt hnd (by omega) hPx
    obtain ⟨L, hL⟩ : ∃ L, L = refZ P := ⟨_, rfl⟩
    have hLl : L.length ≤ 100 := by rw [hL]; exact Nat.le_trans (refZ_len P) hPl
    have hLx : ∀ x ∈ L, x.1.length ≤ 100 := by rw [hL]; exact refZ_texts hPx
    have hLL : refZ L = L := by rw [hL]; exact refZ_idem P
    rw [← hL] at hpr
    have hpp := law_pairs_false htl ⟨#[]⟩ (by rw [hpr]; omega)
    obtain ⟨q, hq⟩ := nd_form o
    rw [hpr, hq] at hpp
    rw [hq]
    clear hT hN hwt hnd hB3 hT1 hT2 hP hPl hPx hL hmx B1 B2
    gi_wp2_with fail
    refine ⟨trivial, (callsIn_wide.2 hpp).mono ?_⟩
    rintro e W4 ⟨v, u, rfl, hv, hu, hB4⟩
    have b5 := boxed_below b5 hB4 b5.lt
    have b6 := boxed_below b6 hB4 b6.lt
    have B4 := below_step B3 hB4
    have htl4 := htl.below hB4 hB4.size
    have zn := hB4.size
    obtain ⟨av, cv, rfl⟩ := own_form hv
    obtain ⟨au, cu, rfl⟩ := own_form hu
    obtain ⟨W5, hW5, B45, z5, b8, b9⟩ := two8 W4 (.slice av L.length cv) (.slice au L.length cu)
    have hv5 := own_only hv (Only.of_below B45 (fun _ => False)) fun _ _ e => e
    have hu5 := own_only hu (Only.of_below B45 (fun _ => False)) fun _ _ e => e
    have ov : ∀ k, (Value.slice av L.length cv).ownBlock = some k → k < W5.heap.size := fun k hk => (own_lt hv5 hk).2
    have ou : ∀ k, (Value.slice au L.length cu).ownBlock = some k → k < W5.heap.size := fun k hk => (own_lt hu5 hk).2
    have b5 := boxed_below b5 B45 b5.lt
    have b6 := boxed_below b6 B45 b6.lt
    have B5 := below_step B4 B45
    have htl5 := htl4.below (B45.mono zn) B45.size
    have hw5 := walk_Pairs htl5
    rw [hq, hpr] at hw5
    clear hpp hB4 htl B3 hv hu htl4
    gi_wp2_with fail
    try rw [hW5]
    clear hW5
    refine ⟨trivial, (callsIn_wide.2 hw5).mono ?_⟩
    rintro e W6 ⟨X, rfl, hX, hB6, _⟩
    have hnil : ∀ w, Sem.run Try.prog (binOp BinOp.eql 39 (.func (.func 23) #[] #[.pointer (some ⟨X, 0, none⟩)]) Value.nilFunc) w = .ok (.bool false) w := fun w => by rfl
    obtain ⟨W7, hW7⟩ : ∃ W7, W7 = W6.alloc (.cells #[.int .i64 0] 3) := ⟨_, rfl⟩
    have B67 : Below W6.heap.size W6 W7 := by rw [hW7]; exact new_below _ _
    have b11 : Boxed W7 W6.heap.size 3 (.int .i64 0) := by rw [hW7]; exact Boxed.new _ _ _
    have z7 : W7.heap.size = W6.heap.size + 1 := by rw [hW7]; simp
    have B57 : Below W5.heap.size W5 W7 := below_step hB6 B67
    have z56 := hB6.size
    have hw7 := walk_Pairs (htl5.below (B57.mono (Nat.le_trans zn B45.size)) B57.size)
    rw [hq, hpr] at hw7
    clear hw5
    gi_wp2_with fail
    try rw [← hW7]
    clear hW7
    refine ⟨trivial, (callsIn_wide.2 hw7).mono ?_⟩
    rintro e W8 ⟨X2, rfl, hX2, hB8, hseq⟩
    have B58 : Below W5.heap.size W5 W8 := below_step B57 hB8
    have b5 := boxed_below b5 B58 b5.lt
    have b6 := boxed_below b6 B58 b6.lt
    have b8 := boxed_below b8 B58 b8.lt
    have b9 := boxed_below b9 B58 b9.lt
    have b11 := boxed_below b11 hB8 b11.lt
    have hv8 := own_only hv5 (Only.of_below B58 (fun _ => False)) fun _ _ e => e
    have hu8 := own_only hu5 (Only.of_below B58 (fun _ => False)) fun _ _ e => e
    have B8 := below_step B5 B58
    have z8 := hB8.size
    have lW := B4.size
    have HV : Hid (∀ Wx, Only (fun k => k = W6.heap.size) W8 Wx → Boxed Wx W.heap.size 5 (.int .u8 few) ∧ Boxed Wx (W.heap.size + 1) 4 (.bool false) ∧ Boxed Wx W4.heap.size 22 (.slice av L.length cv) ∧ Boxed Wx (W4.heap.size + 1) 23 (.slice au L.length cu) ∧
        Wx.ownsRow W3.heap.size 9 1 (.slice av L.length cv) L.length ((L.map Prod.fst).map keyV) ∧ Wx.ownsRow W3.heap.size 3 1 (.slice au L.length cu) L.length ((L.map Prod.snd).map numV) ∧ Below W.heap.size W Wx) := Lib.hid fun Wx ho =>
      ⟨boxO b5 ho (by omega), boxO b6 ho (by omega), boxO b8 ho (by omega), boxO b9 ho (by omega), own_only hv8 ho (fun k hk e => by have := ov k hk; omega), own_only hu8 ho (fun k hk e => by have := ou k hk; omega), B8.trans (ho.below B8.size fun k hk e => by omega)⟩
    clear hw7 hB6 hB8 B57 B67 hnil b5 b6 b8 b9 hv5 hu5 hv8 hu8 htl5
    gi_wp2_with fail
    refine wpIn_rangeO (by omega) (gf := 23) (lb := #[.pointer (some ⟨X2, 0, none⟩)]) rfl (enters_of Try.func23 (by kernel_rfl) rfl)
      hseq (Below.refl _ _) (fun _ => rfl)
      (fun C1 pre Wx => C1 = (fun k => k = W6.heap.size) ∧ Boxed Wx W6.heap.size 3 (.int .i64 (pre.length : Int)))
      (fun c C1 pre Wx => c = .exit 0 ∧ C1 = (fun k => k = W6.heap.size))
      ?hI ?hIx (fun k => k = W6.heap.size) ?hC ?hw ?h0
      (fun x => { tmps := #[.slice a1 T.length c1, .slice a2 N.length c2, .int .u8 few, undef, undef, .pointer (some ⟨W.heap.size, 0, none⟩), .pointer (some ⟨W.heap.size + 1, 0, none⟩), .pointer q, .pointer (some ⟨W4.heap.size, 0, none⟩), .pointer (some ⟨W4.heap.size + 1, 0, none⟩), .bool true,
        .pointer (some ⟨W6.heap.size, 0, none⟩), strV x.1, .int .i64 x.2, undef, undef, undef, undef, undef, undef, .bool true, .bool false, .slice a1 T.length c1, .bool false, .slice a1 T.length c1, .slice a2 N.length c2, .pointer q, .tuple #[.slice av L.length cv, .slice au L.length cu, .bool true], .pointer q,
        .tuple #[.slice av L.length cv, .slice au L.length cu, .bool true], .slice av L.length cv, .slice au L.length cu, .bool true, .bool true, .bool false, .bool false, .pointer q, .func (.func 23) #[] #[.pointer (some ⟨X, 0, none⟩)], .bool false, .bool false, .pointer q,
        .func (.func 23) #[] #[.pointer (some ⟨X2, 0, none⟩)], strV x.1, .int .i64 x.2, undef, undef, undef, undef, undef, undef, undef, undef, undef, undef, undef, undef, undef, undef, undef, undef, undef, undef, undef, undef, undef, undef, undef, undef, undef, undef, undef, undef, undef, undef, undef, undef, undef, undef, undef, undef, undef, undef, undef, undef, undef, undef, undef, undef, undef, undef, undef, undef, undef, undef, undef, undef, undef, undef, undef, undef, undef, undef, undef], defers := [] }) ?assign ?body ?done ?stop
    case hI =>
      rintro C s Wx Wy ⟨rfl, h⟩ hw ho
      exact ⟨rfl, boxO h ho fun h => h rfl⟩
    case hIx =>
      rintro c C s Wx Wy ⟨h1, h2⟩ hw ho
      exact ⟨h1, h2⟩
    case hC => rintro k rfl; exact .inl (by omega)
    case hw => rintro k rfl; exact b11.lt
    case h0 => exact ⟨rfl, b11⟩
    case assign =>
      intro l2 x Wx K hK
      gi_wp2
      exact hK
    case body =>
      rintro l2 C1 pre x Wx hpx ⟨rfl, h11⟩ hg ho hw
      obtain ⟨h5, h6, h8, h9, hv, hu, _⟩ := HV.out Wx ho
      have hlt : pre.length < L.length := by
        have h1 := hpx.length_le
        rw [List.length_append, List.length_singleton] at h1; omega
      have hLx : L[pre.length]? = some x := by
        obtain ⟨t, ht⟩ := hpx
        rw [← ht]; simp
      obtain ⟨gv, cv', ev, _, _, _, hcv⟩ := own_cellN (by omega) hv
      cases ev
      obtain ⟨gu, cu', eu, _, _, _, hcu⟩ := own_cellN (by omega) hu
      cases eu
      have d1 := hcv pre.length (.string ⟨x.1.toArray⟩) (by rw [List.getElem?_map, List.getElem?_map, hLx]; rfl)
      have d2 := hcu pre.length (.int .i64 x.2) (by rw [List.getElem?_map, List.getElem?_map, hLx]; rfl)
      have k5 := h5.cell
      have k8 := h8.cell
      have k9 := h9.cell
      have k11 := h11.cell
      have f11 := h11.frozen
      have s5 : ∀ u, (Wx.setCell ⟨W6.heap.size, 0, none⟩ u).cell? ⟨W.heap.size, 0, none⟩ = some (.int .u8 few) := fun u =>
        (World.cell?_setCell_far _ _ _ _ (by show W6.heap.size ≠ W.heap.size; omega)).trans k5
      have hkI : (pre.length : Int) < (L.length : Int) := by omega
      have HEND : Hid (Only (fun k => k = W6.heap.size) Wx (Wx.setCell ⟨W6.heap.size, 0, none⟩ (.int .i64 ((pre.length : Int) + 1)))) := Lib.hid ((Only.refl (fun k => k = W6.heap.size) Wx).setCell (p := ⟨W6.heap.size, 0, none⟩) (.inl rfl) _)
      have HBX : Hid (Boxed (Wx.setCell ⟨W6.heap.size, 0, none⟩ (.int .i64 ((pre.length : Int) + 1))) W6.heap.size 3 (.int .i64 ((pre.length : Int) + 1))) := Lib.hid (h11.set _)
      obtain ⟨xt, xs⟩ := x
      dsimp only at d1 d2
      rw [show strV (xt, xs).1 = Value.string ⟨xt.toArray⟩ from rfl]
      have hwl : W6.heap.size < Wx.heap.size := h11.lt
      clear hpx hLx hcv hcu hv hu h5 h6 h8 h9 h11 hg ho hseq
      by_cases hfw : few < (pre.length : Int) + 1
      · gi_wp2_with fail
        exact ⟨_, Grow.refl _ _, HEND.out, fun k hk => by have h1 := HEND.out.size; omega, rfl, rfl⟩
      · gi_wp2_with fail
        refine ⟨_, Grow.refl _ _, HEND.out, fun k hk => by have h1 := HEND.out.size; omega, rfl, ?_⟩
        rw [List.length_append, List.length_singleton]
        exact HBX.out
    case done =>
      rintro D C1 ys Wx hD hCD _ ⟨rfl, h11⟩ hg ho hw hK
      obtain ⟨h5, h6, h8, h9, hv, hu, hBW⟩ := HV.out Wx ho
      have hlf : (L.map Prod.fst).length = L.length := List.length_map _
      have hls : (L.map Prod.snd).length = L.length := List.length_map _
      have hnu : NumsIn Wx (.slice au (L.map Prod.snd).length cu) (L.map Prod.snd) := by
        have h1 := SliceK.of_own hu
        rw [← hls] at h1
        exact h1
      have hof := law_of (c1 := cv) (c2 := cu) (own_texts hv).1 (fun k x hx => nums_at hnu k x hx) (by omega) (fun x hx => by obtain ⟨y, hy, rfl⟩ := List.mem_map.1 hx; exact hLx y hy)
      rw [hlf, hls, zip_fs] at hof
      have k8 := h8.cell
      have k9 := h9.cell
      clear hnu
      gi_wp2_with fail
      refine ⟨trivial, (callsIn_wide.2 hof).mono ?_⟩
      rintro e Y1 ⟨o2, rfl, hwt2, hnd2, hY1⟩
      have hpr2 : prs o2 = L := (prs_ref hwt2).trans hLL
      have hpp2 := law_pairs_false (tells_of hwt2 hnd2 (by omega) hLx) ⟨#[]⟩ (by rw [hpr2]; omega)
      obtain ⟨q2, hq2⟩ := nd_form o2
      rw [hpr2, hq2] at hpp2
      rw [hq2]
      clear hof hwt2 hnd2 k8 k9
      gi_wp2_with fail
      refine ⟨trivial, (callsIn_wide.2 hpp2).mono ?_⟩
      rintro e Y2 ⟨vc, vd, rfl, hc, hd, hY2⟩
      have hZ2 := below_step hY1 hY2
      clear hpp2 hY1
      gi_wp2_with fail
      refine ⟨trivial, (callsIn_wide.2 (walk_Of_nil Y2)).mono ?_⟩
      rintro e Y3 ⟨rfl, hY3⟩
      have hZ3 := below_step hZ2 hY3
      have hpp3 := law_pairs_false (o := none) (W := Y3) (tells_of wtr_nil trivial (by decide) (by decide)) ⟨#[]⟩ (by decide)
      gi_wp2_with fail
      refine ⟨trivial, (callsIn_wide.2 hpp3).mono ?_⟩
      rintro e Y4 ⟨ve, vf, rfl, he, hf, hY4⟩
      obtain ⟨ae, ce, rfl⟩ := own_form he
      have hZ4 := below_step hZ3 hY4
      have hY24 := below_step hY3 hY4
      have b8 := boxed_below h8 hZ4 h8.lt
      have b9 := boxed_below h9 hZ4 h9.lt
      have k8 := b8.cell
      have hx1 := own_only hv (Only.of_below hZ4 (fun _ => False)) fun _ _ e => e
      have hx2 := own_only hc (Only.of_below hY24 (fun _ => False)) fun _ _ e => e
      have hx3 := own_only hu (Only.of_below hZ4 (fun _ => False)) fun _ _ e => e
      have hx4 := own_only hd (Only.of_below hY24 (fun _ => False)) fun _ _ e => e
      have htx := ref_TextsO (L := L.map Prod.fst) (M := L.map Prod.fst) (by rw [hlf]; exact hx1) (by rw [hlf]; exact hx2) (by omega) (by omega)
      rw [show ((L.map Prod.fst) == (L.map Prod.fst)) = true from by simp] at htx
      have hlen0 : (prs none).length = 0 := rfl
      rw [hlen0]
      clear hpp3 hY3 hY4 hZ2 hZ3 hx1 hx2 hY24
      gi_wp2_with fail
      refine ⟨trivial, (callsIn_wide.2 htx).mono ?_⟩
      rintro e Y5 ⟨rfl, hY5⟩
      have k9 := (boxed_below b9 hY5 b9.lt).cell
      have hn1 : NumsIn Y5 (.slice au L.length cu) (L.map Prod.snd) := by
        have h1 := (SliceK.of_own hx3).below hY5
        unfold NumsIn
        rw [hls]; exact h1
      have hn2 : NumsIn Y5 vd (L.map Prod.snd) := by
        have h1 := (SliceK.of_own hx4).below hY5
        unfold NumsIn
        rw [hls]; exact h1
      have hix := ref_Ints _ _ _ _ _ hn1 hn2 (by omega) (by omega)
      rw [show decide ((L.map Prod.snd) = (L.map Prod.snd)) = true from by simp] at hix
      have hZ5 := below_step hZ4 hY5
      clear htx hn1 hn2 hx3 hx4 k8 hY5
      gi_wp2_with fail
      refine ⟨trivial, (callsIn_wide.2 hix).mono ?_⟩
      rintro e Y6 ⟨rfl, hY6⟩
      have hZ6 := below_step hZ5 hY6
      obtain ⟨r1, r2, r3⟩ := ends5 hBW hZ6 h6 (Nat.le_succ _) (by omega) (by omega) hK
      have b6 := boxed_below h6 hZ6 h6.lt
      have k6 := b6.cell
      have f6 := b6.frozen
      have HE := Lib.hid (And.intro r1 (And.intro r2 r3))
      clear hix hZ5 hZ6 hY6 r1 r2 r3
      gi_wp2_with fail
      refine ⟨by simp, .inl ⟨_, _, rfl, run_takeDeferred HE.out.1, ?_⟩⟩
      have q6 := HE.out.2.1
      exact ⟨.bool true, by simp [results, Try.f4, go_sem, q6], rfl, HE.out.2.2⟩
    case stop =>
      rintro D c C1 pre Wx hD hCD hpx ⟨rfl, rfl⟩ hg ho hw hK
      obtain ⟨h5, h6, h8, h9, hv, hu, hBW⟩ := HV.out Wx ho
      have hlf : (L.map Prod.fst).length = L.length := List.length_map _
      have hls : (L.map Prod.snd).length = L.length := List.length_map _
      have hnu : NumsIn Wx (.slice au (L.map Prod.snd).length cu) (L.map Prod.snd) := by
        have h1 := SliceK.of_own hu
        rw [← hls] at h1
        exact h1
      have hof := law_of (c1 := cv) (c2 := cu) (own_texts hv).1 (fun k x hx => nums_at hnu k x hx) (by omega) (fun x hx => by obtain ⟨y, hy, rfl⟩ := List.mem_map.1 hx; exact hLx y hy)
      rw [hlf, hls, zip_fs] at hof
      have k8 := h8.cell
      have k9 := h9.cell
      clear hnu
      gi_wp2_with fail
      refine ⟨trivial, (callsIn_wide.2 hof).mono ?_⟩
      rintro e Y1 ⟨o2, rfl, hwt2, hnd2, hY1⟩
      have hpr2 : prs o2 = L := (prs_ref hwt2).trans hLL
      have hpp2 := law_pairs_false (tells_of hwt2 hnd2 (by omega) hLx) ⟨#[]⟩ (by rw [hpr2]; omega)
      obtain ⟨q2, hq2⟩ := nd_form o2
      rw [hpr2, hq2] at hpp2
      rw [hq2]
      clear hof hwt2 hnd2 k8 k9
      gi_wp2_with fail
      refine ⟨trivial, (callsIn_wide.2 hpp2).mono ?_⟩
      rintro e Y2 ⟨vc, vd, rfl, hc, hd, hY2⟩
      have hZ2 := below_step hY1 hY2
      clear hpp2 hY1
      gi_wp2_with fail
      refine ⟨trivial, (callsIn_wide.2 (walk_Of_nil Y2)).mono ?_⟩
      rintro e Y3 ⟨rfl, hY3⟩
      have hZ3 := below_step hZ2 hY3
      have hpp3 := law_pairs_false (o := none) (W := Y3) (tells_of wtr_nil trivial (by decide) (by decide)) ⟨#[]⟩ (by decide)
      gi_wp2_with fail
      refine ⟨trivial, (callsIn_wide.2 hpp3).mono ?_⟩
      rintro e Y4 ⟨ve, vf, rfl, he, hf, hY4⟩
      obtain ⟨ae, ce, rfl⟩ := own_form he
      have hZ4 := below_step hZ3 hY4
      have hY24 := below_step hY3 hY4
      have b8 := boxed_below h8 hZ4 h8.lt
      have b9 := boxed_below h9 hZ4 h9.lt
      have k8 := b8.cell
      have hx1 := own_only hv (Only.of_below hZ4 (fun _ => False)) fun _ _ e => e
      have hx2 := own_only hc (Only.of_below hY24 (fun _ => False)) fun _ _ e => e
      have hx3 := own_only hu (Only.of_below hZ4 (fun _ => False)) fun _ _ e => e
      have hx4 := own_only hd (Only.of_below hY24 (fun _ => False)) fun _ _ e => e
      have htx := ref_TextsO (L := L.map Prod.fst) (M := L.map Prod.fst) (by rw [hlf]; exact hx1) (by rw [hlf]; exact hx2) (by omega) (by omega)
      rw [show ((L.map Prod.fst) == (L.map Prod.fst)) = true from by simp] at htx
      have hlen0 : (prs none).length = 0 := rfl
      rw [hlen0]
      clear hpp3 hY3 hY4 hZ2 hZ3 hx1 hx2 hY24
      gi_wp2_with fail
      refine ⟨trivial, (callsIn_wide.2 htx).mono ?_⟩
      rintro e Y5 ⟨rfl, hY5⟩
      have k9 := (boxed_below b9 hY5 b9.lt).cell
      have hn1 : NumsIn Y5 (.slice au L.length cu) (L.map Prod.snd) := by
        have h1 := (SliceK.of_own hx3).below hY5
        unfold NumsIn
        rw [hls]; exact h1
      have hn2 : NumsIn Y5 vd (L.map Prod.snd) := by
        have h1 := (SliceK.of_own hx4).below hY5
        unfold NumsIn
        rw [hls]; exact h1
      have hix := ref_Ints _ _ _ _ _ hn1 hn2 (by omega) (by omega)
      rw [show decide ((L.map Prod.snd) = (L.map Prod.snd)) = true from by simp] at hix
      have hZ5 := below_step hZ4 hY5
      clear htx hn1 hn2 hx3 hx4 k8 hY5
      gi_wp2_with fail
      refine ⟨trivial, (callsIn_wide.2 hix).mono ?_⟩
      rintro e Y6 ⟨rfl, hY6⟩
      have hZ6 := below_step hZ5 hY6
      obtain ⟨r1, r2, r3⟩ := ends5 hBW hZ6 h6 (Nat.le_succ _) (by omega) (by omega) hK
      have b6 := boxed_below h6 hZ6 h6.lt
      have k6 := b6.cell
      have f6 := b6.frozen
      have HE := Lib.hid (And.intro r1 (And.intro r2 r3))
      clear hix hZ5 hZ6 hY6 r1 r2 r3
      gi_wp2_with fail
      refine ⟨by simp, .inl ⟨_, _, rfl, run_takeDeferred HE.out.1, ?_⟩⟩
      have q6 := HE.out.2.1
      exact ⟨.bool true, by simp [results, Try.f4, go_sem, q6], rfl, HE.out.2.2⟩
end Go.Proofs.Ytabgedmocdjkcaa
