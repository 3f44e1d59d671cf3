/- Layer 14, the law: what is told of a node, as far as 500, by two rows. Made by tools/gen_pairsl14.py. -/
import Derived.Test.YtabgedmocdjkcaaRowsM14
namespace Go.Proofs.Ytabgedmocdjkcaa
open Go.RowKit Go.Shelf

theorem Rw.over {Z : Nat} {v0 u0 bv bu v u : Value} {W0 Wc Wd : World} {l : List Key} {m : List Int} {S : Nat → Prop} (h : Rw Z v0 u0 W0 bv bu v u l m Wc) (ho : Only S Wc Wd) (h1 : ∀ k, S k → ¬ ownRw Z v u k) : Rw Z v u Wd bv bu v u l m Wd where
  b6 := boxO h.b6 ho fun e => h1 _ e (.inl ⟨by omega, by omega⟩)
  b7 := boxO h.b7 ho fun e => h1 _ e (.inl ⟨by omega, by omega⟩)
  b8 := boxO h.b8 ho fun e => h1 _ e (.inl ⟨by omega, by omega⟩)
  b9 := boxO h.b9 ho fun e => h1 _ e (.inl ⟨by omega, by omega⟩)
  b10 := boxO h.b10 ho fun e => h1 _ e (.inl ⟨by omega, by omega⟩)
  rv := own_only h.rv ho fun k hk e => h1 _ e (.inr (.inl hk))
  ru := own_only h.ru ho fun k hk e => h1 _ e (.inr (.inr hk))
  on := Only.refl _ _
  fv := fun _ h => .inl h
  fu := fun _ h => .inl h
/-- Where the law's loop stands. -/
def LSt (Z : Nat) (C : Nat → Prop) (pre : List Pr) (Wx : World) : Prop := ∃ v u, C = ownRw Z v u ∧ Rw Z v u Wx v u v u (pre.map Prod.fst) (pre.map Prod.snd) Wx
theorem LSt.stab (Z : Nat) : Stab (LSt Z) := by
  rintro C s Wx Wy ⟨v, u, rfl, h⟩ hw ho
  exact ⟨v, u, rfl, h.over ho fun k hk hc => hk hc⟩
/-- What is told. -/
def LOut (W : World) (L : List Pr) (e : Ending) (w' : World) : Prop := ∃ v u, e = .returned (.tuple #[v, u, .bool true]) ∧ w'.ownsRow W.heap.size 9 1 v L.length ((L.map Prod.fst).map keyV) ∧ w'.ownsRow W.heap.size 3 1 u L.length ((L.map Prod.snd).map numV) ∧ Below W.heap.size W w'
/-- The three boxes of results, as they are written in the end. -/
theorem ends14 {Z D : Nat} {v u : Value} {l : List Key} {m : List Int} {Wx : World} (h : Rw Z v u Wx v u v u l m Wx) (hD : ¬ ownRw Z v u D) (hK : Wx.heap[D]? = some (.deferred (some []))) :
    ∃ W9, (((Wx.setCell ⟨Z, 0, none⟩ v).setCell ⟨Z + 1, 0, none⟩ u).setCell ⟨Z + 2, 0, none⟩ (.bool true)).drew = W9 ∧ W9.heap[D]? = some (.deferred (some [])) ∧ Only (fun k => five Z k ∨ k = D) Wx (W9.putObj D (.deferred none)) ∧
      (W9.putObj D (.deferred none)).cell? ⟨Z, 0, none⟩ = some v ∧ (W9.putObj D (.deferred none)).cell? ⟨Z + 1, 0, none⟩ = some u ∧ (W9.putObj D (.deferred none)).cell? ⟨Z + 2, 0, none⟩ = some (.bool true) ∧
      (W9.putObj D (.deferred none)).ownsRow Z 9 1 v l.length (l.map keyV) ∧ (W9.putObj D (.deferred none)).ownsRow Z 3 1 u m.length (m.map numV) := by
  have hD5 : ∀ k, five Z k → k ≠ D := fun k hk e => hD (.inl (e ▸ hk))
  have o1 : Only (fun k => k = Z) Wx (Wx.setCell ⟨Z, 0, none⟩ v) := (Only.refl (fun k => k = Z) Wx).setCell (p := ⟨Z, 0, none⟩) (.inl rfl) _
  have o2 : Only (fun k => k = Z + 1) (Wx.setCell ⟨Z, 0, none⟩ v) ((Wx.setCell ⟨Z, 0, none⟩ v).setCell ⟨Z + 1, 0, none⟩ u) := (Only.refl (fun k => k = Z + 1) _).setCell (p := ⟨Z + 1, 0, none⟩) (.inl rfl) _
  have o3 : Only (fun k => k = Z + 2) ((Wx.setCell ⟨Z, 0, none⟩ v).setCell ⟨Z + 1, 0, none⟩ u) (((Wx.setCell ⟨Z, 0, none⟩ v).setCell ⟨Z + 1, 0, none⟩ u).setCell ⟨Z + 2, 0, none⟩ (.bool true)) := (Only.refl (fun k => k = Z + 2) _).setCell (p := ⟨Z + 2, 0, none⟩) (.inl rfl) _
  have o4 : Only (fun _ => False) (((Wx.setCell ⟨Z, 0, none⟩ v).setCell ⟨Z + 1, 0, none⟩ u).setCell ⟨Z + 2, 0, none⟩ (.bool true)) (((Wx.setCell ⟨Z, 0, none⟩ v).setCell ⟨Z + 1, 0, none⟩ u).setCell ⟨Z + 2, 0, none⟩ (.bool true)).drew := (Only.refl (fun _ => False) _).drewN 1
  have b1 := h.b6.set v
  have b2 := (boxO h.b7 o1 (by omega)).set u
  have b3 := (boxO (boxO h.b8 o1 (by omega)) o2 (by omega)).set (.bool true)
  have b1 := boxO (boxO (boxO b1 o2 (by omega)) o3 (by omega)) o4 id
  have b2 := boxO (boxO b2 o3 (by omega)) o4 id
  have b3 := boxO b3 o4 id
  have oA : Only (five Z) Wx (((Wx.setCell ⟨Z, 0, none⟩ v).setCell ⟨Z + 1, 0, none⟩ u).setCell ⟨Z + 2, 0, none⟩ (.bool true)).drew :=
    (((o1.mono (T := five Z) fun k _ e => ⟨by omega, by omega⟩).trans (o2.mono fun k _ e => ⟨by omega, by omega⟩)).trans (o3.mono fun k _ e => ⟨by omega, by omega⟩)).trans (o4.mono fun k _ e => e.elim)
  generalize (((Wx.setCell ⟨Z, 0, none⟩ v).setCell ⟨Z + 1, 0, none⟩ u).setCell ⟨Z + 2, 0, none⟩ (.bool true)).drew = W9 at *
  have o5 : Only (fun k => k = D) W9 (W9.putObj D (.deferred none)) := (Only.refl (fun k => k = D) W9).putObj _ (.inl rfl)
  have hDl : D < Wx.heap.size := (Array.getElem?_eq_some_iff.1 hK).1
  have oZ : Only (fun k => five Z k ∨ k = D) Wx (W9.putObj D (.deferred none)) := (oA.mono fun k _ e => .inl e).trans (o5.mono fun k _ e => .inr e)
  refine ⟨W9, rfl, (oA.block D hDl fun e => hD5 D e rfl).trans hK, oZ, (boxO b1 o5 (hD5 _ ⟨by omega, by omega⟩)).cell, (boxO b2 o5 (hD5 _ ⟨by omega, by omega⟩)).cell, (boxO b3 o5 (hD5 _ ⟨by omega, by omega⟩)).cell, own_only h.rv oZ fun k hk e => ?_, own_only h.ru oZ fun k hk e => ?_⟩
  · exact e.elim (h.ne (.inl hk)) fun e => hD (.inr (.inl (e ▸ hk)))
  · exact e.elim (h.ne (.inr hk)) fun e => hD (.inr (.inr (e ▸ hk)))
attribute [local go_sem] Oper.semAt_some
set_option maxRecDepth 100000 in
set_option maxHeartbeats 4000000 in
theorem law_pairs_false {n₀ M : Nat} {o : Nd} {W : World} (h : Tells n₀ M o W) (f : ByteArray) (hlen : (prs o).length ≤ 400) : Calls Try.prog 10 #[ndP o, .string f, .bool false] W (LOut W (prs o)) := by
  obtain ⟨i0, hi0, hz0, hz1, hz2⟩ := info_parts infoStr
  obtain ⟨j0, hj0, hy0, hy1, hy2⟩ := info_parts infoInt
  have hn0 := h.n0
  have HP : Hid (∀ W', Below W.heap.size W W' → Calls Try.prog 15 #[ndP o] W' fun e w' => ∃ X, e = .returned (.func (.func 23) #[] #[.pointer (some ⟨X, 0, none⟩)]) ∧ W'.heap.size ≤ X ∧ Below W'.heap.size W' w' ∧
      SeqO Try.prog 23 #[.pointer (some ⟨X, 0, none⟩)] encPr (fun k => n₀ ≤ k) (fun xs => xs = prs o) (fun pre => pre <+: prs o) w') := Lib.hid fun W' h' =>
    walk_Pairs (h.below (h'.mono hn0) h'.size)
  obtain ⟨q, hq⟩ : ∃ q, ndP o = .pointer q := by cases o <;> exact ⟨_, rfl⟩
  rw [hq] at HP ⊢
  clear h hq
  obtain ⟨W5, hW5, z5, B5, R5⟩ := five_new W
  obtain ⟨Z, hZ⟩ : ∃ Z, Z = W.heap.size := ⟨_, rfl⟩
  refine (callsIn_wide (n := 9)).1 ?_
  refine callsIn_of_wp_marks Try.func10 rfl trivial ?_ rfl
  simp only [Try.ntmps10, List.size_toArray, List.length_cons, List.length_nil, Nat.reduceAdd, Nat.reduceSub, Array.replicate_succ, Array.replicate_zero, List.push_toArray, List.append_toArray, List.nil_append, List.cons_append]
  gi_wp2_with fail
  rw [show W.heap.size + 1 + 1 + 1 + 1 = W.heap.size + 4 from rfl, show W.heap.size + 1 + 1 + 1 = W.heap.size + 3 from rfl, show W.heap.size + 1 + 1 = W.heap.size + 2 from rfl]
  clear hW5
  refine ⟨trivial, (callsIn_wide.2 (HP.out W5 B5)).mono ?_⟩
  rintro e W6 ⟨X, rfl, hX, hB6, hseq⟩
  have B6 := below_step B5 hB6
  have R6 := R5.below hB6
  have z6 := hB6.size
  clear hB6 B5 R5
  have hnil : ∀ w, Sem.run Try.prog (binOp BinOp.eql 39 (.func (.func 23) #[] #[.pointer (some ⟨X, 0, none⟩)]) Value.nilFunc) w = .ok (.bool false) w := fun w => by rfl
  gi_wp2_with fail
  refine wpIn_rangeO (by omega) (gf := 23) (lb := #[.pointer (some ⟨X, 0, none⟩)]) rfl (enters_of Try.func23 (by kernel_rfl) rfl)
    hseq (Below.refl _ _) (fun _ => rfl)
    (LSt W.heap.size)
    (fun _ _ _ _ => False)
    ?hI ?hIx (ownRw W.heap.size (.slice none 0 0) (.slice none 0 0)) ?hC ?hw ?h0
    (fun x => { tmps := #[.pointer q, .string f, .bool false, undef, undef, undef, .pointer (some ⟨W.heap.size, 0, none⟩), .pointer (some ⟨W.heap.size + 1, 0, none⟩), .pointer (some ⟨W.heap.size + 2, 0, none⟩), .pointer (some ⟨W.heap.size + 3, 0, none⟩), .pointer (some ⟨W.heap.size + 4, 0, none⟩), .func (.func 23) #[] #[.pointer (some ⟨X, 0, none⟩)], strV x.1, .int .i64 x.2, .pointer q, .func (.func 23) #[] #[.pointer (some ⟨X, 0, none⟩)], .bool false, undef, undef, undef, .func (.func 23) #[] #[.pointer (some ⟨X, 0, none⟩)], .bool false, .func (.func 23) #[] #[.pointer (some ⟨X, 0, none⟩)], strV x.1, .int .i64 x.2, undef, undef, undef, undef, undef, undef, undef, undef, undef, undef, undef, undef, undef, undef, undef], defers := [] }) ?assign ?body ?done ?stop
  case hI => exact LSt.stab _
  case hIx => exact fun _ _ _ _ _ h _ _ => h
  case hC =>
    rintro k (h | h | h)
    · have h1 := h.1; have h2 := h.2; exact .inl (by omega)
    · simp [Value.ownBlock] at h
    · simp [Value.ownBlock] at h
  case hw => exact R6.wn
  case h0 => exact ⟨_, _, rfl, R6.over (Only.refl (fun _ => False) _) (fun _ h => h.elim)⟩
  case assign =>
    intro l2 x Wx K hK
    gi_wp2
    exact hK
  case body =>
    rintro l2 C pre x Wx hpx ⟨v, u, rfl, h⟩ hg ho hw
    have hlt : pre.length < 400 := by
      have h1 := hpx.length_le
      rw [List.length_append, List.length_singleton] at h1; omega
    clear hpx hg ho hw
    have hl5 : (pre.map Prod.fst).length < 400 := by rw [List.length_map]; exact hlt
    have hm5 : (pre.map Prod.snd).length < 400 := by rw [List.length_map]; exact hlt
    obtain ⟨xt, xs⟩ := x
    rw [show strV (xt, xs).1 = Value.string ⟨xt.toArray⟩ from rfl]
    have hl9 : (pre ++ [(xt, xs)]).map Prod.fst = pre.map Prod.fst ++ [xt] := by simp
    have hm9 : (pre ++ [(xt, xs)]).map Prod.snd = pre.map Prod.snd ++ [xs] := by simp
    have HL9 := Lib.hid hl9
    have HM9 := Lib.hid hm9
    clear hl9 hm9
    generalize pre.map Prod.fst = l at *
    generalize pre.map Prod.snd = m at *
    have hst := h.below (Wd := Wx.drew) (Below.refl _ _).drew
    clear h
    gi_wp2_with fail
    refine wpIn_region_till_round (k := 8) (S := (fun w' => w'.cell? ⟨W.heap.size + 3, 0, none⟩ = some v ∧ w'.cell? ⟨W.heap.size + 4, 0, none⟩ = some u)) (by kernel_rfl) (by kernel_rfl) (fun ⟨_, _, h⟩ => h) ?_ (fun hHeld => ?_)
    · exact ⟨hst.b9.cell, hst.b10.cell⟩
    generalize Wx.drew = Wd at hst hHeld ⊢
    refine wpAnyL_take (i := 0) (oi := ⟨some 25, _, _, _, _, _⟩) (v := ?_) rfl (by kernel_rfl) (by kernel_rfl) (by kernel_rfl) (by kernel_rfl) (by decide) (by kernel_rfl) (by kernel_rfl) (fun _ _ _ h => h) (Or.inl ⟨by rfl, ?_⟩) (by assumption) ?_
    rotate_left
    · (intro w hSw; (try dsimp only at hSw); go_simp; try with_reducible rfl)
    try simp only [Act.put, List.setIfInBounds_toArray, List.set_cons_zero, List.set_cons_succ]
    refine wpAnyL_take (i := 1) (oi := ⟨some 26, _, _, _, _, _⟩) (v := ?_) rfl (by kernel_rfl) (by kernel_rfl) (by kernel_rfl) (by kernel_rfl) (by decide) (by kernel_rfl) (by kernel_rfl) (fun _ _ _ h => h) (Or.inl ⟨by rfl, ?_⟩) (by assumption) ?_
    rotate_left
    · (intro w hSw; (try dsimp only at hSw); go_simp; try with_reducible rfl)
    try simp only [Act.put, List.setIfInBounds_toArray, List.set_cons_zero, List.set_cons_succ]
    refine wpAnyL_take (i := 4) (oi := ⟨some 29, _, _, _, _, _⟩) (v := ?_) rfl (by kernel_rfl) (by kernel_rfl) (by kernel_rfl) (by kernel_rfl) (by decide) (by kernel_rfl) (by kernel_rfl) (fun _ _ _ h => h) (Or.inl ⟨by rfl, ?_⟩) (by assumption) ?_
    rotate_left
    · (intro w hSw; (try dsimp only at hSw); go_simp; try with_reducible rfl)
    try simp only [Act.put, List.setIfInBounds_toArray, List.set_cons_zero, List.set_cons_succ]
    refine wpAnyL_take (i := 5) (oi := ⟨some 30, _, _, _, _, _⟩) (v := ?_) rfl (by kernel_rfl) (by kernel_rfl) (by kernel_rfl) (by kernel_rfl) (by decide) (by kernel_rfl) (by kernel_rfl) (fun _ _ _ h => h) (Or.inl ⟨by rfl, ?_⟩) (by assumption) ?_
    rotate_left
    · (intro w hSw; (try dsimp only at hSw); go_simp; try with_reducible rfl)
    try simp only [Act.put, List.setIfInBounds_toArray, List.set_cons_zero, List.set_cons_succ]
    refine wpAnyL_ready (rs := [2, 6]) (by kernel_rfl) (by simp) ?_
    refine AllReadyL.cons (o := ⟨some 27, _, _, _, _, _⟩) rfl (fun K hK => ?_) (AllReadyL.cons (o := ⟨some 31, _, _, _, _, _⟩) rfl (fun K hK => ?_) AllReadyL.nil)
    · go_simp
      have ha := hst.newS ⟨xt.toArray⟩
      try replace hb := hb.alloc (.cells #[.string ⟨xt.toArray⟩] 9)
      replace hst := hst.below (new_below _ (.cells #[.string ⟨xt.toArray⟩] 9))
      generalize World.alloc _ _ = Wn at *
      refine hK.out _ _ ?_ (fun hHeldX => ?_)
      · exact fun _ => ⟨hst.b9.cell, hst.b10.cell⟩
      clear hK K hHeld
      rename _ => hHeld
      try simp only [Act.put, List.setIfInBounds_toArray, List.set_cons_zero, List.set_cons_succ]
      refine wpAnyL_ready (rs := [3, 6]) (by kernel_rfl) (by simp) ?_
      refine AllReadyL.cons (o := ⟨some 28, _, _, _, _, _⟩) rfl (fun K hK => ?_) (AllReadyL.cons (o := ⟨some 31, _, _, _, _, _⟩) rfl (fun K hK => ?_) AllReadyL.nil)
      · refine step_append_lies _ rfl (.tmp 25) (.tmp 27) 22 rfl W.heap.size 9 i0 (.string ⟨#[]⟩) 1 16 Try.underlying22 hi0 hz0 hz1 hz2 rfl (by decide) _ _ _ rfl hst.rv ⟨_, 0, none⟩ 1 1 [.string ⟨xt.toArray⟩] rfl rfl (World.news_of_block ha) (by simp [Value.oneCell']) (by decide) (by simp only [maxLen]; omega) (by omega) (Nat.le_of_lt hst.b6.lt) _ rfl ?_
        intro g cap W8 hown hgrow hlie hlt5
        try have hbn := hst.apartI hb
        obtain ⟨hst8, ho8⟩ := hst.appL xt hown hgrow hlie rfl
        try replace hb := hb.only ho8 hbn
        clear hst
        have hst := hst8
        clear hown hgrow hlie hst8 ho8 ha
        refine hK.out _ _ ?_ (fun hHeldX => ?_)
        · exact fun _ => ⟨hst.b9.cell, hst.b10.cell⟩
        clear hK K hHeld
        rename _ => hHeld
        try simp only [Act.put, List.setIfInBounds_toArray, List.set_cons_zero, List.set_cons_succ]
        refine wpAnyL_ready (rs := [6]) (by kernel_rfl) (by simp) ?_
        refine AllReadyL.cons (o := ⟨some 31, _, _, _, _, _⟩) rfl (fun K hK => ?_) AllReadyL.nil
        go_simp
        have hb := hst.newI xs
        try replace ha := ha.alloc (.cells #[.int .i64 xs] 3)
        replace hst := hst.below (new_below _ (.cells #[.int .i64 xs] 3))
        generalize World.alloc _ _ = Wn at *
        refine hK.out _ _ ?_ (fun hHeldX => ?_)
        · exact fun _ => ⟨hst.b9.cell, hst.b10.cell⟩
        clear hK K hHeld
        rename _ => hHeld
        try simp only [Act.put, List.setIfInBounds_toArray, List.set_cons_zero, List.set_cons_succ]
        refine wpAnyL_ready (rs := [7]) (by kernel_rfl) (by simp) ?_
        refine AllReadyL.cons (o := ⟨some 32, _, _, _, _, _⟩) rfl (fun K hK => ?_) AllReadyL.nil
        refine step_append_lies _ rfl (.tmp 29) (.tmp 31) 23 rfl W.heap.size 3 j0 (.int .i64 0) 1 8 Try.underlying23 hj0 hy0 hy1 hy2 rfl (by decide) _ _ _ rfl hst.ru ⟨_, 0, none⟩ 1 1 [.int .i64 xs] rfl rfl (World.news_of_block hb) (by simp [Value.oneCell']) (by decide) (by simp only [maxLen]; omega) (by omega) (Nat.le_of_lt hst.b6.lt) _ rfl ?_
        intro g2 cap2 W9 hown hgrow hlie hlt6
        replace hst := hst.appM xs hown hgrow hlie rfl
        clear hown hgrow hlie hb
        refine hK.out _ _ ?_ (fun hHeldX => ?_)
        · exact fun _ => ⟨hst.b9.cell, hst.b10.cell⟩
        clear hK K hHeld
        rename _ => hHeld
        try simp only [Act.put, List.setIfInBounds_toArray, List.set_cons_zero, List.set_cons_succ]
        refine wpAnyL_ready (rs := [8]) (by kernel_rfl) (by simp) ?_
        refine AllReadyL.cons (o := ⟨none, _, _, _, _, _⟩) rfl (fun K hK => ?_) AllReadyL.nil
        have c9 := hst.b9.cell
        have f9 := hst.b9.frozen
        go_simp
        clear c9 f9
        replace hst := hst.put9
        generalize World.setCell _ _ _ = Wn at *
        refine hK.out _ _ ?_ (fun hHeldX => ?_)
        · exact fun h => absurd h (by decide)
        clear hK K hHeld
        rename _ => hHeld
        try simp only [Act.put]
        refine wpAnyL_ready (rs := [9]) (by kernel_rfl) (by simp) ?_
        refine AllReadyL.cons (o := ⟨none, _, _, _, _, _⟩) rfl (fun K hK => ?_) AllReadyL.nil
        have c9 := hst.b10.cell
        have f9 := hst.b10.frozen
        go_simp
        clear c9 f9
        replace hst := hst.put10
        generalize World.setCell _ _ _ = Wn at *
        refine hK.out _ _ ?_ (fun hHeldX => ?_)
        · exact fun h => absurd h (by decide)
        clear hK K hHeld
        rename _ => hHeld
        try simp only [Act.put]
        refine wpAnyL_done (by kernel_rfl) ?_ _
        have c9 := hst.b9.cell
        gi_wp2_with fail
        exact ⟨_, hst.grow, hst.on, hst.wn, _, _, rfl, by rw [HL9.out, HM9.out]; exact hst.again⟩
      · go_simp
        have hb := hst.newI xs
        try replace ha := ha.alloc (.cells #[.int .i64 xs] 3)
        replace hst := hst.below (new_below _ (.cells #[.int .i64 xs] 3))
        generalize World.alloc _ _ = Wn at *
        refine hK.out _ _ ?_ (fun hHeldX => ?_)
        · exact fun _ => ⟨hst.b9.cell, hst.b10.cell⟩
        clear hK K hHeld
        rename _ => hHeld
        try simp only [Act.put, List.setIfInBounds_toArray, List.set_cons_zero, List.set_cons_succ]
        refine wpAnyL_ready (rs := [3]) (by kernel_rfl) (by simp) ?_
        refine AllReadyL.cons (o := ⟨some 28, _, _, _, _, _⟩) rfl (fun K hK => ?_) AllReadyL.nil
        refine step_append_lies _ rfl (.tmp 25) (.tmp 27) 22 rfl W.heap.size 9 i0 (.string ⟨#[]⟩) 1 16 Try.underlying22 hi0 hz0 hz1 hz2 rfl (by decide) _ _ _ rfl hst.rv ⟨_, 0, none⟩ 1 1 [.string ⟨xt.toArray⟩] rfl rfl (World.news_of_block ha) (by simp [Value.oneCell']) (by decide) (by simp only [maxLen]; omega) (by omega) (Nat.le_of_lt hst.b6.lt) _ rfl ?_
        intro g cap W8 hown hgrow hlie hlt5
        try have hbn := hst.apartI hb
        obtain ⟨hst8, ho8⟩ := hst.appL xt hown hgrow hlie rfl
        try replace hb := hb.only ho8 hbn
        clear hst
        have hst := hst8
        clear hown hgrow hlie hst8 ho8 ha
        refine hK.out _ _ ?_ (fun hHeldX => ?_)
        · exact fun _ => ⟨hst.b9.cell, hst.b10.cell⟩
        clear hK K hHeld
        rename _ => hHeld
        try simp only [Act.put, List.setIfInBounds_toArray, List.set_cons_zero, List.set_cons_succ]
        refine wpAnyL_ready (rs := [7]) (by kernel_rfl) (by simp) ?_
        refine AllReadyL.cons (o := ⟨some 32, _, _, _, _, _⟩) rfl (fun K hK => ?_) AllReadyL.nil
        refine step_append_lies _ rfl (.tmp 29) (.tmp 31) 23 rfl W.heap.size 3 j0 (.int .i64 0) 1 8 Try.underlying23 hj0 hy0 hy1 hy2 rfl (by decide) _ _ _ rfl hst.ru ⟨_, 0, none⟩ 1 1 [.int .i64 xs] rfl rfl (World.news_of_block hb) (by simp [Value.oneCell']) (by decide) (by simp only [maxLen]; omega) (by omega) (Nat.le_of_lt hst.b6.lt) _ rfl ?_
        intro g2 cap2 W9 hown hgrow hlie hlt6
        replace hst := hst.appM xs hown hgrow hlie rfl
        clear hown hgrow hlie hb
        refine hK.out _ _ ?_ (fun hHeldX => ?_)
        · exact fun _ => ⟨hst.b9.cell, hst.b10.cell⟩
        clear hK K hHeld
        rename _ => hHeld
        try simp only [Act.put, List.setIfInBounds_toArray, List.set_cons_zero, List.set_cons_succ]
        refine wpAnyL_ready (rs := [8]) (by kernel_rfl) (by simp) ?_
        refine AllReadyL.cons (o := ⟨none, _, _, _, _, _⟩) rfl (fun K hK => ?_) AllReadyL.nil
        have c9 := hst.b9.cell
        have f9 := hst.b9.frozen
        go_simp
        clear c9 f9
        replace hst := hst.put9
        generalize World.setCell _ _ _ = Wn at *
        refine hK.out _ _ ?_ (fun hHeldX => ?_)
        · exact fun h => absurd h (by decide)
        clear hK K hHeld
        rename _ => hHeld
        try simp only [Act.put]
        refine wpAnyL_ready (rs := [9]) (by kernel_rfl) (by simp) ?_
        refine AllReadyL.cons (o := ⟨none, _, _, _, _, _⟩) rfl (fun K hK => ?_) AllReadyL.nil
        have c9 := hst.b10.cell
        have f9 := hst.b10.frozen
        go_simp
        clear c9 f9
        replace hst := hst.put10
        generalize World.setCell _ _ _ = Wn at *
        refine hK.out _ _ ?_ (fun hHeldX => ?_)
        · exact fun h => absurd h (by decide)
        clear hK K hHeld
        rename _ => hHeld
        try simp only [Act.put]
        refine wpAnyL_done (by kernel_rfl) ?_ _
        have c9 := hst.b9.cell
        gi_wp2_with fail
        exact ⟨_, hst.grow, hst.on, hst.wn, _, _, rfl, by rw [HL9.out, HM9.out]; exact hst.again⟩
    · go_simp
      have hb := hst.newI xs
      try replace ha := ha.alloc (.cells #[.int .i64 xs] 3)
      replace hst := hst.below (new_below _ (.cells #[.int .i64 xs] 3))
      generalize World.alloc _ _ = Wn at *
      refine hK.out _ _ ?_ (fun hHeldX => ?_)
      · exact fun _ => ⟨hst.b9.cell, hst.b10.cell⟩
      clear hK K hHeld
      rename _ => hHeld
      try simp only [Act.put, List.setIfInBounds_toArray, List.set_cons_zero, List.set_cons_succ]
      refine wpAnyL_ready (rs := [2]) (by kernel_rfl) (by simp) ?_
      refine AllReadyL.cons (o := ⟨some 27, _, _, _, _, _⟩) rfl (fun K hK => ?_) AllReadyL.nil
      go_simp
      have ha := hst.newS ⟨xt.toArray⟩
      try replace hb := hb.alloc (.cells #[.string ⟨xt.toArray⟩] 9)
      replace hst := hst.below (new_below _ (.cells #[.string ⟨xt.toArray⟩] 9))
      generalize World.alloc _ _ = Wn at *
      refine hK.out _ _ ?_ (fun hHeldX => ?_)
      · exact fun _ => ⟨hst.b9.cell, hst.b10.cell⟩
      clear hK K hHeld
      rename _ => hHeld
      try simp only [Act.put, List.setIfInBounds_toArray, List.set_cons_zero, List.set_cons_succ]
      refine wpAnyL_ready (rs := [3]) (by kernel_rfl) (by simp) ?_
      refine AllReadyL.cons (o := ⟨some 28, _, _, _, _, _⟩) rfl (fun K hK => ?_) AllReadyL.nil
      refine step_append_lies _ rfl (.tmp 25) (.tmp 27) 22 rfl W.heap.size 9 i0 (.string ⟨#[]⟩) 1 16 Try.underlying22 hi0 hz0 hz1 hz2 rfl (by decide) _ _ _ rfl hst.rv ⟨_, 0, none⟩ 1 1 [.string ⟨xt.toArray⟩] rfl rfl (World.news_of_block ha) (by simp [Value.oneCell']) (by decide) (by simp only [maxLen]; omega) (by omega) (Nat.le_of_lt hst.b6.lt) _ rfl ?_
      intro g cap W8 hown hgrow hlie hlt5
      try have hbn := hst.apartI hb
      obtain ⟨hst8, ho8⟩ := hst.appL xt hown hgrow hlie rfl
      try replace hb := hb.only ho8 hbn
      clear hst
      have hst := hst8
      clear hown hgrow hlie hst8 ho8 ha
      refine hK.out _ _ ?_ (fun hHeldX => ?_)
      · exact fun _ => ⟨hst.b9.cell, hst.b10.cell⟩
      clear hK K hHeld
      rename _ => hHeld
      try simp only [Act.put, List.setIfInBounds_toArray, List.set_cons_zero, List.set_cons_succ]
      refine wpAnyL_ready (rs := [7]) (by kernel_rfl) (by simp) ?_
      refine AllReadyL.cons (o := ⟨some 32, _, _, _, _, _⟩) rfl (fun K hK => ?_) AllReadyL.nil
      refine step_append_lies _ rfl (.tmp 29) (.tmp 31) 23 rfl W.heap.size 3 j0 (.int .i64 0) 1 8 Try.underlying23 hj0 hy0 hy1 hy2 rfl (by decide) _ _ _ rfl hst.ru ⟨_, 0, none⟩ 1 1 [.int .i64 xs] rfl rfl (World.news_of_block hb) (by simp [Value.oneCell']) (by decide) (by simp only [maxLen]; omega) (by omega) (Nat.le_of_lt hst.b6.lt) _ rfl ?_
      intro g2 cap2 W9 hown hgrow hlie hlt6
      replace hst := hst.appM xs hown hgrow hlie rfl
      clear hown hgrow hlie hb
      refine hK.out _ _ ?_ (fun hHeldX => ?_)
      · exact fun _ => ⟨hst.b9.cell, hst.b10.cell⟩
      clear hK K hHeld
      rename _ => hHeld
      try simp only [Act.put, List.setIfInBounds_toArray, List.set_cons_zero, List.set_cons_succ]
      refine wpAnyL_ready (rs := [8]) (by kernel_rfl) (by simp) ?_
      refine AllReadyL.cons (o := ⟨none, _, _, _, _, _⟩) rfl (fun K hK => ?_) AllReadyL.nil
      have c9 := hst.b9.cell
      have f9 := hst.b9.frozen
      go_simp
      clear c9 f9
      replace hst := hst.put9
      generalize World.setCell _ _ _ = Wn at *
      refine hK.out _ _ ?_ (fun hHeldX => ?_)
      · exact fun h => absurd h (by decide)
      clear hK K hHeld
      rename _ => hHeld
      try simp only [Act.put]
      refine wpAnyL_ready (rs := [9]) (by kernel_rfl) (by simp) ?_
      refine AllReadyL.cons (o := ⟨none, _, _, _, _, _⟩) rfl (fun K hK => ?_) AllReadyL.nil
      have c9 := hst.b10.cell
      have f9 := hst.b10.frozen
      go_simp
      clear c9 f9
      replace hst := hst.put10
      generalize World.setCell _ _ _ = Wn at *
      refine hK.out _ _ ?_ (fun hHeldX => ?_)
      · exact fun h => absurd h (by decide)
      clear hK K hHeld
      rename _ => hHeld
      try simp only [Act.put]
      refine wpAnyL_done (by kernel_rfl) ?_ _
      have c9 := hst.b9.cell
      gi_wp2_with fail
      exact ⟨_, hst.grow, hst.on, hst.wn, _, _, rfl, by rw [HL9.out, HM9.out]; exact hst.again⟩
  case done =>
    rintro D C ys Wx hD hCD rfl ⟨v, u, rfl, h⟩ hg ho hw hK
    obtain ⟨a1, c1, rfl⟩ := own_form h.rv
    obtain ⟨a2, c2, rfl⟩ := own_form h.ru
    have hl1 : ((prs o).map Prod.fst).length = (prs o).length := List.length_map _
    have hl2 : ((prs o).map Prod.snd).length = (prs o).length := List.length_map _
    rw [hl1, hl2] at h hCD
    have k6 := h.b6.cell
    have k7 := h.b7.cell
    have k8 := h.b8.cell
    have k9 := h.b9.cell
    have k10 := h.b10.cell
    have f6 := h.b6.frozen
    have f7 := h.b7.frozen
    have f8 := h.b8.frozen
    gi_wp2_with fail
    obtain ⟨W9, hW9, qK, qO, q6, q7, q8, qv, qu⟩ := ends14 h hCD hK
    have oW : Only (five W.heap.size) W (W9.putObj D (.deferred none)) := ((Only.of_below B6 _).step ho fun k hk e => by
      rcases e with h | h | h
      · exact h
      · simp [Value.ownBlock] at h
      · simp [Value.ownBlock] at h).step qO fun k hk e => e.elim id fun e => by omega
    have hBW : Below W.heap.size W (W9.putObj D (.deferred none)) := oW.below (Nat.le_refl _) fun k hk e => by have := e.1; omega
    rw [hl1] at qv
    rw [hl2] at qu
    clear hl1 hl2
    gi_region_with (fail)
    all_goals
      try rw [hW9]
      gi_wp2
      refine ⟨by simp, .inl ⟨_, _, rfl, run_takeDeferred qK, ?_⟩⟩
      refine ⟨.tuple #[.slice a1 (prs o).length c1, .slice a2 (prs o).length c2, .bool true], by simp [results, Try.f10, go_sem, q6, q7, q8], _, _, rfl, ?_, ?_, hBW⟩
      · exact qv
      · exact qu
  case stop =>
    rintro D c C pre Wx _ _ _ h
    exact h.elim

set_option maxRecDepth 100000 in
set_option maxHeartbeats 4000000 in
theorem law_pairs_true {n₀ M : Nat} {o : Nd} {W : World} (h : Tells n₀ M o W) (f : ByteArray) (hlen : (unZ f.data.toList (prs o)).length ≤ 400) : Calls Try.prog 10 #[ndP o, .string f, .bool true] W (LOut W (unZ f.data.toList (prs o))) := by
  obtain ⟨i0, hi0, hz0, hz1, hz2⟩ := info_parts infoStr
  obtain ⟨j0, hj0, hy0, hy1, hy2⟩ := info_parts infoInt
  have hn0 := h.n0
  have HP : Hid (∀ W', Below W.heap.size W W' → Calls Try.prog 15 #[ndP o] W' fun e w' => ∃ X, e = .returned (.func (.func 23) #[] #[.pointer (some ⟨X, 0, none⟩)]) ∧ W'.heap.size ≤ X ∧ Below W'.heap.size W' w' ∧
      SeqO Try.prog 23 #[.pointer (some ⟨X, 0, none⟩)] encPr (fun k => n₀ ≤ k) (fun xs => xs = prs o) (fun pre => pre <+: prs o) w') := Lib.hid fun W' h' =>
    walk_Pairs (h.below (h'.mono hn0) h'.size)
  have HU : Hid (∀ W', Below W.heap.size W W' → Calls Try.prog 19 #[ndP o, .string f] W' fun e w' => ∃ X Y, e = .returned (.func (.func 29) #[] #[.pointer (some ⟨X, 0, none⟩), .pointer (some ⟨Y, 0, none⟩)]) ∧ W'.heap.size ≤ Y ∧ Below W'.heap.size W' w' ∧
      SeqO Try.prog 29 #[.pointer (some ⟨X, 0, none⟩), .pointer (some ⟨Y, 0, none⟩)] encPr (fun k => n₀ ≤ k ∧ k ≠ Y) (fun xs => xs = unZ f.data.toList (prs o)) (fun pre => pre <+: unZ f.data.toList (prs o)) w') := Lib.hid fun W' h' =>
    walk_Under (h.below (h'.mono hn0) h'.size) f
  obtain ⟨q, hq⟩ : ∃ q, ndP o = .pointer q := by cases o <;> exact ⟨_, rfl⟩
  rw [hq] at HP HU ⊢
  clear h hq
  obtain ⟨W5, hW5, z5, B5, R5⟩ := five_new W
  obtain ⟨Z, hZ⟩ : ∃ Z, Z = W.heap.size := ⟨_, rfl⟩
  refine (callsIn_wide (n := 9)).1 ?_
  refine callsIn_of_wp_marks Try.func10 rfl trivial ?_ rfl
  simp only [Try.ntmps10, List.size_toArray, List.length_cons, List.length_nil, Nat.reduceAdd, Nat.reduceSub, Array.replicate_succ, Array.replicate_zero, List.push_toArray, List.append_toArray, List.nil_append, List.cons_append]
  gi_wp2_with fail
  rw [show W.heap.size + 1 + 1 + 1 + 1 = W.heap.size + 4 from rfl, show W.heap.size + 1 + 1 + 1 = W.heap.size + 3 from rfl, show W.heap.size + 1 + 1 = W.heap.size + 2 from rfl]
  clear hW5
  refine ⟨trivial, (callsIn_wide.2 (HP.out W5 B5)).mono ?_⟩
  rintro e W6 ⟨X, rfl, hX, hB6, hseq⟩
  have B6 := below_step B5 hB6
  have R6 := R5.below hB6
  have z6 := hB6.size
  clear hB6 B5 R5
  gi_wp2_with fail
  refine ⟨trivial, (callsIn_wide.2 (HU.out W6 B6)).mono ?_⟩
  rintro e W7 ⟨X2, Y, rfl, hY, hB7, hseq⟩
  replace B6 := below_step B6 hB7
  replace R6 := R6.below hB7
  have z7 := hB7.size
  have hnil : ∀ w, Sem.run Try.prog (binOp BinOp.eql 39 (.func (.func 29) #[] #[.pointer (some ⟨X2, 0, none⟩), .pointer (some ⟨Y, 0, none⟩)]) Value.nilFunc) w = .ok (.bool false) w := fun w => by rfl
  gi_wp2_with fail
  refine wpIn_rangeO (by omega) (gf := 29) (lb := #[.pointer (some ⟨X2, 0, none⟩), .pointer (some ⟨Y, 0, none⟩)]) rfl (enters_of Try.func29 (by kernel_rfl) rfl)
    hseq (Below.refl _ _) (fun _ => rfl)
    (LSt W.heap.size)
    (fun _ _ _ _ => False)
    ?hI ?hIx (ownRw W.heap.size (.slice none 0 0) (.slice none 0 0)) ?hC ?hw ?h0
    (fun x => { tmps := #[.pointer q, .string f, .bool true, undef, undef, undef, .pointer (some ⟨W.heap.size, 0, none⟩), .pointer (some ⟨W.heap.size + 1, 0, none⟩), .pointer (some ⟨W.heap.size + 2, 0, none⟩), .pointer (some ⟨W.heap.size + 3, 0, none⟩), .pointer (some ⟨W.heap.size + 4, 0, none⟩), .func (.func 29) #[] #[.pointer (some ⟨X2, 0, none⟩), .pointer (some ⟨Y, 0, none⟩)], strV x.1, .int .i64 x.2, .pointer q, .func (.func 23) #[] #[.pointer (some ⟨X, 0, none⟩)], .bool true, .pointer q, .string f, .func (.func 29) #[] #[.pointer (some ⟨X2, 0, none⟩), .pointer (some ⟨Y, 0, none⟩)], .func (.func 29) #[] #[.pointer (some ⟨X2, 0, none⟩), .pointer (some ⟨Y, 0, none⟩)], .bool false, .func (.func 29) #[] #[.pointer (some ⟨X2, 0, none⟩), .pointer (some ⟨Y, 0, none⟩)], strV x.1, .int .i64 x.2, undef, undef, undef, undef, undef, undef, undef, undef, undef, undef, undef, undef, undef, undef, undef], defers := [] }) ?assign ?body ?done ?stop
  case hI => exact LSt.stab _
  case hIx => exact fun _ _ _ _ _ h _ _ => h
  case hC =>
    rintro k (h | h | h)
    · have h1 := h.1; have h2 := h.2; exact .inl ⟨by omega, by omega⟩
    · simp [Value.ownBlock] at h
    · simp [Value.ownBlock] at h
  case hw => exact R6.wn
  case h0 => exact ⟨_, _, rfl, R6.over (Only.refl (fun _ => False) _) (fun _ h => h.elim)⟩
  case assign =>
    intro l2 x Wx K hK
    gi_wp2
    exact hK
  case body =>
    rintro l2 C pre x Wx hpx ⟨v, u, rfl, h⟩ hg ho hw
    have hlt : pre.length < 400 := by
      have h1 := hpx.length_le
      rw [List.length_append, List.length_singleton] at h1; omega
    clear hpx hg ho hw
    have hl5 : (pre.map Prod.fst).length < 400 := by rw [List.length_map]; exact hlt
    have hm5 : (pre.map Prod.snd).length < 400 := by rw [List.length_map]; exact hlt
    obtain ⟨xt, xs⟩ := x
    rw [show strV (xt, xs).1 = Value.string ⟨xt.toArray⟩ from rfl]
    have hl9 : (pre ++ [(xt, xs)]).map Prod.fst = pre.map Prod.fst ++ [xt] := by simp
    have hm9 : (pre ++ [(xt, xs)]).map Prod.snd = pre.map Prod.snd ++ [xs] := by simp
    have HL9 := Lib.hid hl9
    have HM9 := Lib.hid hm9
    clear hl9 hm9
    generalize pre.map Prod.fst = l at *
    generalize pre.map Prod.snd = m at *
    have hst := h.below (Wd := Wx.drew) (Below.refl _ _).drew
    clear h
    gi_wp2_with fail
    refine wpIn_region_till_round (k := 8) (S := (fun w' => w'.cell? ⟨W.heap.size + 3, 0, none⟩ = some v ∧ w'.cell? ⟨W.heap.size + 4, 0, none⟩ = some u)) (by kernel_rfl) (by kernel_rfl) (fun ⟨_, _, h⟩ => h) ?_ (fun hHeld => ?_)
    · exact ⟨hst.b9.cell, hst.b10.cell⟩
    generalize Wx.drew = Wd at hst hHeld ⊢
    refine wpAnyL_take (i := 0) (oi := ⟨some 25, _, _, _, _, _⟩) (v := ?_) rfl (by kernel_rfl) (by kernel_rfl) (by kernel_rfl) (by kernel_rfl) (by decide) (by kernel_rfl) (by kernel_rfl) (fun _ _ _ h => h) (Or.inl ⟨by rfl, ?_⟩) (by assumption) ?_
    rotate_left
    · (intro w hSw; (try dsimp only at hSw); go_simp; try with_reducible rfl)
    try simp only [Act.put, List.setIfInBounds_toArray, List.set_cons_zero, List.set_cons_succ]
    refine wpAnyL_take (i := 1) (oi := ⟨some 26, _, _, _, _, _⟩) (v := ?_) rfl (by kernel_rfl) (by kernel_rfl) (by kernel_rfl) (by kernel_rfl) (by decide) (by kernel_rfl) (by kernel_rfl) (fun _ _ _ h => h) (Or.inl ⟨by rfl, ?_⟩) (by assumption) ?_
    rotate_left
    · (intro w hSw; (try dsimp only at hSw); go_simp; try with_reducible rfl)
    try simp only [Act.put, List.setIfInBounds_toArray, List.set_cons_zero, List.set_cons_succ]
    refine wpAnyL_take (i := 4) (oi := ⟨some 29, _, _, _, _, _⟩) (v := ?_) rfl (by kernel_rfl) (by kernel_rfl) (by kernel_rfl) (by kernel_rfl) (by decide) (by kernel_rfl) (by kernel_rfl) (fun _ _ _ h => h) (Or.inl ⟨by rfl, ?_⟩) (by assumption) ?_
    rotate_left
    · (intro w hSw; (try dsimp only at hSw); go_simp; try with_reducible rfl)
    try simp only [Act.put, List.setIfInBounds_toArray, List.set_cons_zero, List.set_cons_succ]
    refine wpAnyL_take (i := 5) (oi := ⟨some 30, _, _, _, _, _⟩) (v := ?_) rfl (by kernel_rfl) (by kernel_rfl) (by kernel_rfl) (by kernel_rfl) (by decide) (by kernel_rfl) (by kernel_rfl) (fun _ _ _ h => h) (Or.inl ⟨by rfl, ?_⟩) (by assumption) ?_
    rotate_left
    · (intro w hSw; (try dsimp only at hSw); go_simp; try with_reducible rfl)
    try simp only [Act.put, List.setIfInBounds_toArray, List.set_cons_zero, List.set_cons_succ]
    refine wpAnyL_ready (rs := [2, 6]) (by kernel_rfl) (by simp) ?_
    refine AllReadyL.cons (o := ⟨some 27, _, _, _, _, _⟩) rfl (fun K hK => ?_) (AllReadyL.cons (o := ⟨some 31, _, _, _, _, _⟩) rfl (fun K hK => ?_) AllReadyL.nil)
    · go_simp
      have ha := hst.newS ⟨xt.toArray⟩
      try replace hb := hb.alloc (.cells #[.string ⟨xt.toArray⟩] 9)
      replace hst := hst.below (new_below _ (.cells #[.string ⟨xt.toArray⟩] 9))
      generalize World.alloc _ _ = Wn at *
      refine hK.out _ _ ?_ (fun hHeldX => ?_)
      · exact fun _ => ⟨hst.b9.cell, hst.b10.cell⟩
      clear hK K hHeld
      rename _ => hHeld
      try simp only [Act.put, List.setIfInBounds_toArray, List.set_cons_zero, List.set_cons_succ]
      refine wpAnyL_ready (rs := [3, 6]) (by kernel_rfl) (by simp) ?_
      refine AllReadyL.cons (o := ⟨some 28, _, _, _, _, _⟩) rfl (fun K hK => ?_) (AllReadyL.cons (o := ⟨some 31, _, _, _, _, _⟩) rfl (fun K hK => ?_) AllReadyL.nil)
      · refine step_append_lies _ rfl (.tmp 25) (.tmp 27) 22 rfl W.heap.size 9 i0 (.string ⟨#[]⟩) 1 16 Try.underlying22 hi0 hz0 hz1 hz2 rfl (by decide) _ _ _ rfl hst.rv ⟨_, 0, none⟩ 1 1 [.string ⟨xt.toArray⟩] rfl rfl (World.news_of_block ha) (by simp [Value.oneCell']) (by decide) (by simp only [maxLen]; omega) (by omega) (Nat.le_of_lt hst.b6.lt) _ rfl ?_
        intro g cap W8 hown hgrow hlie hlt5
        try have hbn := hst.apartI hb
        obtain ⟨hst8, ho8⟩ := hst.appL xt hown hgrow hlie rfl
        try replace hb := hb.only ho8 hbn
        clear hst
        have hst := hst8
        clear hown hgrow hlie hst8 ho8 ha
        refine hK.out _ _ ?_ (fun hHeldX => ?_)
        · exact fun _ => ⟨hst.b9.cell, hst.b10.cell⟩
        clear hK K hHeld
        rename _ => hHeld
        try simp only [Act.put, List.setIfInBounds_toArray, List.set_cons_zero, List.set_cons_succ]
        refine wpAnyL_ready (rs := [6]) (by kernel_rfl) (by simp) ?_
        refine AllReadyL.cons (o := ⟨some 31, _, _, _, _, _⟩) rfl (fun K hK => ?_) AllReadyL.nil
        go_simp
        have hb := hst.newI xs
        try replace ha := ha.alloc (.cells #[.int .i64 xs] 3)
        replace hst := hst.below (new_below _ (.cells #[.int .i64 xs] 3))
        generalize World.alloc _ _ = Wn at *
        refine hK.out _ _ ?_ (fun hHeldX => ?_)
        · exact fun _ => ⟨hst.b9.cell, hst.b10.cell⟩
        clear hK K hHeld
        rename _ => hHeld
        try simp only [Act.put, List.setIfInBounds_toArray, List.set_cons_zero, List.set_cons_succ]
        refine wpAnyL_ready (rs := [7]) (by kernel_rfl) (by simp) ?_
        refine AllReadyL.cons (o := ⟨some 32, _, _, _, _, _⟩) rfl (fun K hK => ?_) AllReadyL.nil
        refine step_append_lies _ rfl (.tmp 29) (.tmp 31) 23 rfl W.heap.size 3 j0 (.int .i64 0) 1 8 Try.underlying23 hj0 hy0 hy1 hy2 rfl (by decide) _ _ _ rfl hst.ru ⟨_, 0, none⟩ 1 1 [.int .i64 xs] rfl rfl (World.news_of_block hb) (by simp [Value.oneCell']) (by decide) (by simp only [maxLen]; omega) (by omega) (Nat.le_of_lt hst.b6.lt) _ rfl ?_
        intro g2 cap2 W9 hown hgrow hlie hlt6
        replace hst := hst.appM xs hown hgrow hlie rfl
        clear hown hgrow hlie hb
        refine hK.out _ _ ?_ (fun hHeldX => ?_)
        · exact fun _ => ⟨hst.b9.cell, hst.b10.cell⟩
        clear hK K hHeld
        rename _ => hHeld
        try simp only [Act.put, List.setIfInBounds_toArray, List.set_cons_zero, List.set_cons_succ]
        refine wpAnyL_ready (rs := [8]) (by kernel_rfl) (by simp) ?_
        refine AllReadyL.cons (o := ⟨none, _, _, _, _, _⟩) rfl (fun K hK => ?_) AllReadyL.nil
        have c9 := hst.b9.cell
        have f9 := hst.b9.frozen
        go_simp
        clear c9 f9
        replace hst := hst.put9
        generalize World.setCell _ _ _ = Wn at *
        refine hK.out _ _ ?_ (fun hHeldX => ?_)
        · exact fun h => absurd h (by decide)
        clear hK K hHeld
        rename _ => hHeld
        try simp only [Act.put]
        refine wpAnyL_ready (rs := [9]) (by kernel_rfl) (by simp) ?_
        refine AllReadyL.cons (o := ⟨none, _, _, _, _, _⟩) rfl (fun K hK => ?_) AllReadyL.nil
        have c9 := hst.b10.cell
        have f9 := hst.b10.frozen
        go_simp
        clear c9 f9
        replace hst := hst.put10
        generalize World.setCell _ _ _ = Wn at *
        refine hK.out _ _ ?_ (fun hHeldX => ?_)
        · exact fun h => absurd h (by decide)
        clear hK K hHeld
        rename _ => hHeld
        try simp only [Act.put]
        refine wpAnyL_done (by kernel_rfl) ?_ _
        have c9 := hst.b9.cell
        gi_wp2_with fail
        exact ⟨_, hst.grow, hst.on, hst.wn, _, _, rfl, by rw [HL9.out, HM9.out]; exact hst.again⟩
      · go_simp
        have hb := hst.newI xs
        try replace ha := ha.alloc (.cells #[.int .i64 xs] 3)
        replace hst := hst.below (new_below _ (.cells #[.int .i64 xs] 3))
        generalize World.alloc _ _ = Wn at *
        refine hK.out _ _ ?_ (fun hHeldX => ?_)
        · exact fun _ => ⟨hst.b9.cell, hst.b10.cell⟩
        clear hK K hHeld
        rename _ => hHeld
        try simp only [Act.put, List.setIfInBounds_toArray, List.set_cons_zero, List.set_cons_succ]
        refine wpAnyL_ready (rs := [3]) (by kernel_rfl) (by simp) ?_
        refine AllReadyL.cons (o := ⟨some 28, _, _, _, _, _⟩) rfl (fun K hK => ?_) AllReadyL.nil
        refine step_append_lies _ rfl (.tmp 25) (.tmp 27) 22 rfl W.heap.size 9 i0 (.string ⟨#[]⟩) 1 16 Try.underlying22 hi0 hz0 hz1 hz2 rfl (by decide) _ _ _ rfl hst.rv ⟨_, 0, none⟩ 1 1 [.string ⟨xt.toArray⟩] rfl rfl (World.news_of_block ha) (by simp [Value.oneCell']) (by decide) (by simp only [maxLen]; omega) (by omega) (Nat.le_of_lt hst.b6.lt) _ rfl ?_
        intro g cap W8 hown hgrow hlie hlt5
        try have hbn := hst.apartI hb
        obtain ⟨hst8, ho8⟩ := hst.appL xt hown hgrow hlie rfl
        try replace hb := hb.only ho8 hbn
        clear hst
        have hst := hst8
        clear hown hgrow hlie hst8 ho8 ha
        refine hK.out _ _ ?_ (fun hHeldX => ?_)
        · exact fun _ => ⟨hst.b9.cell, hst.b10.cell⟩
        clear hK K hHeld
        rename _ => hHeld
        try simp only [Act.put, List.setIfInBounds_toArray, List.set_cons_zero, List.set_cons_succ]
        refine wpAnyL_ready (rs := [7]) (by kernel_rfl) (by simp) ?_
        refine AllReadyL.cons (o := ⟨some 32, _, _, _, _, _⟩) rfl (fun K hK => ?_) AllReadyL.nil
        refine step_append_lies _ rfl (.tmp 29) (.tmp 31) 23 rfl W.heap.size 3 j0 (.int .i64 0) 1 8 Try.underlying23 hj0 hy0 hy1 hy2 rfl (by decide) _ _ _ rfl hst.ru ⟨_, 0, none⟩ 1 1 [.int .i64 xs] rfl rfl (World.news_of_block hb) (by simp [Value.oneCell']) (by decide) (by simp only [maxLen]; omega) (by omega) (Nat.le_of_lt hst.b6.lt) _ rfl ?_
        intro g2 cap2 W9 hown hgrow hlie hlt6
        replace hst := hst.appM xs hown hgrow hlie rfl
        clear hown hgrow hlie hb
        refine hK.out _ _ ?_ (fun hHeldX => ?_)
        · exact fun _ => ⟨hst.b9.cell, hst.b10.cell⟩
        clear hK K hHeld
        rename _ => hHeld
        try simp only [Act.put, List.setIfInBounds_toArray, List.set_cons_zero, List.set_cons_succ]
        refine wpAnyL_ready (rs := [8]) (by kernel_rfl) (by simp) ?_
        refine AllReadyL.cons (o := ⟨none, _, _, _, _, _⟩) rfl (fun K hK => ?_) AllReadyL.nil
        have c9 := hst.b9.cell
        have f9 := hst.b9.frozen
        go_simp
        clear c9 f9
        replace hst := hst.put9
        generalize World.setCell _ _ _ = Wn at *
        refine hK.out _ _ ?_ (fun hHeldX => ?_)
        · exact fun h => absurd h (by decide)
        clear hK K hHeld
        rename _ => hHeld
        try simp only [Act.put]
        refine wpAnyL_ready (rs := [9]) (by kernel_rfl) (by simp) ?_
        refine AllReadyL.cons (o := ⟨none, _, _, _, _, _⟩) rfl (fun K hK => ?_) AllReadyL.nil
        have c9 := hst.b10.cell
        have f9 := hst.b10.frozen
        go_simp
        clear c9 f9
        replace hst := hst.put10
        generalize World.setCell _ _ _ = Wn at *
        refine hK.out _ _ ?_ (fun hHeldX => ?_)
        · exact fun h => absurd h (by decide)
        clear hK K hHeld
        rename _ => hHeld
        try simp only [Act.put]
        refine wpAnyL_done (by kernel_rfl) ?_ _
        have c9 := hst.b9.cell
        gi_wp2_with fail
        exact ⟨_, hst.grow, hst.on, hst.wn, _, _, rfl, by rw [HL9.out, HM9.out]; exact hst.again⟩
    · go_simp
      have hb := hst.newI xs
      try replace ha := ha.alloc (.cells #[.int .i64 xs] 3)
      replace hst := hst.below (new_below _ (.cells #[.int .i64 xs] 3))
      generalize World.alloc _ _ = Wn at *
      refine hK.out _ _ ?_ (fun hHeldX => ?_)
      · exact fun _ => ⟨hst.b9.cell, hst.b10.cell⟩
      clear hK K hHeld
      rename _ => hHeld
      try simp only [Act.put, List.setIfInBounds_toArray, List.set_cons_zero, List.set_cons_succ]
      refine wpAnyL_ready (rs := [2]) (by kernel_rfl) (by simp) ?_
      refine AllReadyL.cons (o := ⟨some 27, _, _, _, _, _⟩) rfl (fun K hK => ?_) AllReadyL.nil
      go_simp
      have ha := hst.newS ⟨xt.toArray⟩
      try replace hb := hb.alloc (.cells #[.string ⟨xt.toArray⟩] 9)
      replace hst := hst.below (new_below _ (.cells #[.string ⟨xt.toArray⟩] 9))
      generalize World.alloc _ _ = Wn at *
      refine hK.out _ _ ?_ (fun hHeldX => ?_)
      · exact fun _ => ⟨hst.b9.cell, hst.b10.cell⟩
      clear hK K hHeld
      rename _ => hHeld
      try simp only [Act.put, List.setIfInBounds_toArray, List.set_cons_zero, List.set_cons_succ]
      refine wpAnyL_ready (rs := [3]) (by kernel_rfl) (by simp) ?_
      refine AllReadyL.cons (o := ⟨some 28, _, _, _, _, _⟩) rfl (fun K hK => ?_) AllReadyL.nil
      refine step_append_lies _ rfl (.tmp 25) (.tmp 27) 22 rfl W.heap.size 9 i0 (.string ⟨#[]⟩) 1 16 Try.underlying22 hi0 hz0 hz1 hz2 rfl (by decide) _ _ _ rfl hst.rv ⟨_, 0, none⟩ 1 1 [.string ⟨xt.toArray⟩] rfl rfl (World.news_of_block ha) (by simp [Value.oneCell']) (by decide) (by simp only [maxLen]; omega) (by omega) (Nat.le_of_lt hst.b6.lt) _ rfl ?_
      intro g cap W8 hown hgrow hlie hlt5
      try have hbn := hst.apartI hb
      obtain ⟨hst8, ho8⟩ := hst.appL xt hown hgrow hlie rfl
      try replace hb := hb.only ho8 hbn
      clear hst
      have hst := hst8
      clear hown hgrow hlie hst8 ho8 ha
      refine hK.out _ _ ?_ (fun hHeldX => ?_)
      · exact fun _ => ⟨hst.b9.cell, hst.b10.cell⟩
      clear hK K hHeld
      rename _ => hHeld
      try simp only [Act.put, List.setIfInBounds_toArray, List.set_cons_zero, List.set_cons_succ]
      refine wpAnyL_ready (rs := [7]) (by kernel_rfl) (by simp) ?_
      refine AllReadyL.cons (o := ⟨some 32, _, _, _, _, _⟩) rfl (fun K hK => ?_) AllReadyL.nil
      refine step_append_lies _ rfl (.tmp 29) (.tmp 31) 23 rfl W.heap.size 3 j0 (.int .i64 0) 1 8 Try.underlying23 hj0 hy0 hy1 hy2 rfl (by decide) _ _ _ rfl hst.ru ⟨_, 0, none⟩ 1 1 [.int .i64 xs] rfl rfl (World.news_of_block hb) (by simp [Value.oneCell']) (by decide) (by simp only [maxLen]; omega) (by omega) (Nat.le_of_lt hst.b6.lt) _ rfl ?_
      intro g2 cap2 W9 hown hgrow hlie hlt6
      replace hst := hst.appM xs hown hgrow hlie rfl
      clear hown hgrow hlie hb
      refine hK.out _ _ ?_ (fun hHeldX => ?_)
      · exact fun _ => ⟨hst.b9.cell, hst.b10.cell⟩
      clear hK K hHeld
      rename _ => hHeld
      try simp only [Act.put, List.setIfInBounds_toArray, List.set_cons_zero, List.set_cons_succ]
      refine wpAnyL_ready (rs := [8]) (by kernel_rfl) (by simp) ?_
      refine AllReadyL.cons (o := ⟨none, _, _, _, _, _⟩) rfl (fun K hK => ?_) AllReadyL.nil
      have c9 := hst.b9.cell
      have f9 := hst.b9.frozen
      go_simp
      clear c9 f9
      replace hst := hst.put9
      generalize World.setCell _ _ _ = Wn at *
      refine hK.out _ _ ?_ (fun hHeldX => ?_)
      · exact fun h => absurd h (by decide)
      clear hK K hHeld
      rename _ => hHeld
      try simp only [Act.put]
      refine wpAnyL_ready (rs := [9]) (by kernel_rfl) (by simp) ?_
      refine AllReadyL.cons (o := ⟨none, _, _, _, _, _⟩) rfl (fun K hK => ?_) AllReadyL.nil
      have c9 := hst.b10.cell
      have f9 := hst.b10.frozen
      go_simp
      clear c9 f9
      replace hst := hst.put10
      generalize World.setCell _ _ _ = Wn at *
      refine hK.out _ _ ?_ (fun hHeldX => ?_)
      · exact fun h => absurd h (by decide)
      clear hK K hHeld
      rename _ => hHeld
      try simp only [Act.put]
      refine wpAnyL_done (by kernel_rfl) ?_ _
      have c9 := hst.b9.cell
      gi_wp2_with fail
      exact ⟨_, hst.grow, hst.on, hst.wn, _, _, rfl, by rw [HL9.out, HM9.out]; exact hst.again⟩
  case done =>
    rintro D C ys Wx hD hCD rfl ⟨v, u, rfl, h⟩ hg ho hw hK
    obtain ⟨a1, c1, rfl⟩ := own_form h.rv
    obtain ⟨a2, c2, rfl⟩ := own_form h.ru
    have hl1 : ((unZ f.data.toList (prs o)).map Prod.fst).length = (unZ f.data.toList (prs o)).length := List.length_map _
    have hl2 : ((unZ f.data.toList (prs o)).map Prod.snd).length = (unZ f.data.toList (prs o)).length := List.length_map _
    rw [hl1, hl2] at h hCD
    have k6 := h.b6.cell
    have k7 := h.b7.cell
    have k8 := h.b8.cell
    have k9 := h.b9.cell
    have k10 := h.b10.cell
    have f6 := h.b6.frozen
    have f7 := h.b7.frozen
    have f8 := h.b8.frozen
    gi_wp2_with fail
    obtain ⟨W9, hW9, qK, qO, q6, q7, q8, qv, qu⟩ := ends14 h hCD hK
    have oW : Only (five W.heap.size) W (W9.putObj D (.deferred none)) := ((Only.of_below B6 _).step ho fun k hk e => by
      rcases e with h | h | h
      · exact h
      · simp [Value.ownBlock] at h
      · simp [Value.ownBlock] at h).step qO fun k hk e => e.elim id fun e => by omega
    have hBW : Below W.heap.size W (W9.putObj D (.deferred none)) := oW.below (Nat.le_refl _) fun k hk e => by have := e.1; omega
    rw [hl1] at qv
    rw [hl2] at qu
    clear hl1 hl2
    gi_region_with (fail)
    all_goals
      try rw [hW9]
      gi_wp2
      refine ⟨by simp, .inl ⟨_, _, rfl, run_takeDeferred qK, ?_⟩⟩
      refine ⟨.tuple #[.slice a1 (unZ f.data.toList (prs o)).length c1, .slice a2 (unZ f.data.toList (prs o)).length c2, .bool true], by simp [results, Try.f10, go_sem, q6, q7, q8], _, _, rfl, ?_, ?_, hBW⟩
      · exact qv
      · exact qu
  case stop =>
    rintro D c C pre Wx _ _ _ h
    exact h.elim

end Go.Proofs.Ytabgedmocdjkcaa
