/- Layer 14 (package walk): Filters; Under's maker. -/
import Derived.Test.YtabgedmocdjkcaaUnder14
namespace Go.Proofs.Ytabgedmocdjkcaa
open Go.RowKit Go.Shelf

set_option maxRecDepth 100000 in
theorem walk_Under {n₀ M : Nat} {o : Nd} {W : World} (h : Tells n₀ M o W) (f : ByteArray) :
    Calls Try.prog 19 #[ndP o, .string f] W fun e w' => ∃ X Y, e = .returned (.func (.func 29) #[] #[.pointer (some ⟨X, 0, none⟩), .pointer (some ⟨Y, 0, none⟩)]) ∧ W.heap.size ≤ Y ∧ Below W.heap.size W w' ∧
      SeqO Try.prog 29 #[.pointer (some ⟨X, 0, none⟩), .pointer (some ⟨Y, 0, none⟩)] encPr (fun k => n₀ ≤ k ∧ k ≠ Y) (fun xs => xs = unZ f.data.toList (prs o)) (fun pre => pre <+: unZ f.data.toList (prs o)) w' := by
  have H : Hid (∀ v, v = ndP o → SeqO Try.prog 29 #[.pointer (some ⟨W.heap.size, 0, none⟩), .pointer (some ⟨W.heap.size + 1, 0, none⟩)] encPr (fun k => n₀ ≤ k ∧ k ≠ W.heap.size + 1) (fun xs => xs = unZ f.data.toList (prs o)) (fun pre => pre <+: unZ f.data.toList (prs o)) ((W.alloc (.cells #[v] 27)).alloc (.cells #[.string f] 9))) := Lib.hid fun v hv => by
    subst hv
    have b2 := Boxed.new (W.alloc (.cells #[ndP o] 27)) 9 (.string f)
    rw [World.size_alloc] at b2
    exact under_seqO (h.below ((below_step (new_below _ _) (new_below _ _)).mono h.n0) (by simp; omega)) f ((Boxed.new _ _ _).alloc _) b2 (by have := h.n0; omega)
  have hp : ∃ q, ndP o = .pointer q := by cases o <;> exact ⟨_, rfl⟩
  obtain ⟨q, hq⟩ := hp
  rw [hq] at H ⊢
  have h2 := H.out _ rfl
  clear h hq
  go_enter Try.func19, Try.ntmps19
  go_wp2
  go_ret
  exact ⟨_, _, rfl, by omega, below_step (new_below _ _) (new_below _ _), h2⟩

/-- The texts of one subscriber. -/
def fiZ (s : Int) (l : List Pr) : List Key := (l.filter fun x => x.2 == s).map Prod.fst
theorem fiZ_snoc (s : Int) (l : List Pr) (x : Pr) : fiZ s (l ++ [x]) = if x.2 = s then fiZ s l ++ [x.1] else fiZ s l := by
  unfold fiZ
  rw [List.filter_append, List.map_append]
  by_cases h : x.2 = s <;> simp [h]
theorem fiZ_len (s : Int) (l : List Pr) : (fiZ s l).length ≤ l.length := by
  unfold fiZ
  rw [List.length_map]
  exact List.length_filter_le _ _
theorem twoF (W : World) (a : Int) : ∃ W2, (W.alloc (.cells #[.int .i64 a] 3)).alloc (.cells #[.slice none 0 0] 22) = W2 ∧ Below W.heap.size W W2 ∧ W2.heap.size = W.heap.size + 2 ∧ Boxed W2 W.heap.size 3 (.int .i64 a) ∧ Boxed W2 (W.heap.size + 1) 22 (.slice none 0 0) := by
  refine ⟨_, rfl, below_step (new_below _ _) (new_below _ _), by simp, (Boxed.new _ _ _).alloc _, ?_⟩
  have := Boxed.new (W.alloc (.cells #[.int .i64 a] 3)) 22 (.slice none 0 0)
  rw [World.size_alloc] at this; exact this
/-- Where Filters stands in its loop: its boxes, its row. -/
structure FSt (W : World) (s : Int) (C : Nat → Prop) (pre : List Pr) (Wx : World) : Prop where
  ex : ∃ v, C = (fun k => k = W.heap.size ∨ k = W.heap.size + 1 ∨ v.ownBlock = some k) ∧ Boxed Wx W.heap.size 3 (.int .i64 s) ∧ Boxed Wx (W.heap.size + 1) 22 v ∧ Wx.ownsRow W.heap.size 9 1 v (fiZ s pre).length ((fiZ s pre).map keyV)
attribute [local go_sem] Oper.semAt_some
set_option maxRecDepth 100000 in
set_option maxHeartbeats 4000000 in
theorem walk_Filters {n₀ M : Nat} {o : Nd} {W : World} (h : Tells n₀ M o W) (s : Int) :
    Calls Try.prog 14 #[ndP o, .int .i64 s] W fun e w' => ∃ v, e = .returned v ∧ w'.ownsRow W.heap.size 9 1 v (fiZ s (prs o)).length ((fiZ s (prs o)).map keyV) ∧ Below W.heap.size W w' := by
  obtain ⟨i0, hi, hz0, hz1, hz2⟩ := info_parts infoStr
  have hn0 := h.n0
  have HP : Hid (∀ W', Below W.heap.size W W' → Calls Try.prog 15 #[ndP o] W' fun e w' => ∃ X, e = .returned (.func (.func 23) #[] #[.pointer (some ⟨X, 0, none⟩)]) ∧ W'.heap.size ≤ X ∧ Below W'.heap.size W' w' ∧
      SeqO Try.prog 23 #[.pointer (some ⟨X, 0, none⟩)] encPr (fun k => n₀ ≤ k) (fun xs => xs = prs o) (fun pre => pre <+: prs o) w') := Lib.hid fun W' h' =>
    walk_Pairs (h.below (h'.mono hn0) h'.size)
  have HL := Lib.hid h.len
  obtain ⟨q, hq⟩ : ∃ q, ndP o = .pointer q := by cases o <;> exact ⟨_, rfl⟩
  rw [hq] at HP ⊢
  clear h hq
  generalize prs o = PR at *
  refine (callsIn_wide (n := 9)).1 ?_
  refine callsIn_of_wp_marks Try.func14 rfl trivial ?_ rfl
  simp only [Try.ntmps14, List.size_toArray, List.length_cons, List.length_nil, Nat.reduceAdd, Nat.reduceSub, Array.replicate_succ, Array.replicate_zero, List.push_toArray, List.append_toArray, List.nil_append, List.cons_append]
  gi_wp2_with fail
  obtain ⟨W2, hW2, B2, z2, b3, b5⟩ := twoF W s
  rw [hW2]
  clear hW2
  refine ⟨trivial, (callsIn_wide.2 (HP.out W2 B2)).mono ?_⟩
  rintro e W4 ⟨X, rfl, hX, hB4, hseq⟩
  have B4 := below_step B2 hB4
  have b3 := boxed_below b3 hB4 b3.lt
  have b5 := boxed_below b5 hB4 b5.lt
  have z4 := hB4.size
  clear hB4 B2
  gi_wp2_with fail
  refine wpIn_rangeO (by omega) (gf := 23) (lb := #[.pointer (some ⟨X, 0, none⟩)]) rfl (enters_of Try.func23 (by kernel_rfl) rfl)
    hseq (Below.refl _ _) (fun _ => rfl)
    (FSt W s)
    (fun _ _ _ _ => False)
    ?hI ?hIx (fun k => k = W.heap.size ∨ k = W.heap.size + 1 ∨ (Value.slice none 0 0).ownBlock = some k) ?hC ?hw ?h0
    (fun x => { tmps := #[.pointer q, .int .i64 s, undef, .pointer (some ⟨W.heap.size, 0, none⟩), .slice none 0 0, .pointer (some ⟨W.heap.size + 1, 0, none⟩), strV x.1, .int .i64 x.2, .pointer q, .func (.func 23) #[] #[.pointer (some ⟨X, 0, none⟩)], strV x.1, .int .i64 x.2, undef, undef, undef, undef, undef, undef, undef, undef], defers := [] }) ?assign ?body ?done ?stop
  case hI =>
    rintro C s Wx Wy ⟨v, rfl, h3, h5, hr⟩ hw ho
    exact ⟨v, rfl, boxO h3 ho fun h => h (.inl rfl), boxO h5 ho fun h => h (.inr (.inl rfl)), own_only hr ho fun k hk h => h (.inr (.inr hk))⟩
  case hIx => exact fun _ _ _ _ _ h _ _ => h
  case hC =>
    rintro k (rfl | rfl | h)
    · exact .inl hn0
    · exact .inl (by omega)
    · simp [Value.ownBlock] at h
  case hw =>
    rintro k (rfl | rfl | h)
    · exact b3.lt
    · exact b5.lt
    · simp [Value.ownBlock] at h
  case h0 => exact ⟨_, rfl, b3, b5, World.ownsRow_nil _ _ _ _⟩
  case assign =>
    intro l2 x Wx K hK
    gi_wp2
    exact hK
  case body =>
    rintro l2 C pre x Wx hpx ⟨v, rfl, h3, h5, hrow⟩ hg ho hw
    have hfs := fiZ_snoc s pre x
    have hlt : (fiZ s pre).length < 100000 := by
      have h1 := hpx.length_le
      have h2 := HL.out
      have h3 := fiZ_len s pre
      rw [List.length_append, List.length_singleton] at h1; omega
    have hzx := ho.size
    have c3 := h3.cell
    have c5 := h5.cell
    have HFS := Lib.hid hfs
    clear hfs
    obtain ⟨xt, xs⟩ := x
    rw [show strV xt = Value.string ⟨xt.toArray⟩ from rfl]
    by_cases hxs : xs = s
    · subst hxs
      have hfv : (fiZ xs (pre ++ [(xt, xs)])).map keyV = (fiZ xs pre).map keyV ++ [.string ⟨xt.toArray⟩] := by rw [HFS.out, if_pos rfl, List.map_append]; rfl
      have hfl : (fiZ xs (pre ++ [(xt, xs)])).length = (fiZ xs pre).length + 1 := by rw [HFS.out, if_pos rfl, List.length_append]; rfl
      have HV := Lib.hid hfv
      have HVL := Lib.hid hfl
      clear hfv hfl
      gi_wp2_with (gi_at_builtin; go_loud (refine wpListIn_append_lies _ rfl _ _ 22 rfl W.heap.size 9 i0 (.string ⟨#[]⟩) 1 16 Try.underlying22 hi hz0 hz1 hz2 rfl (by decide) _ _ _ rfl (hrow.alloc _) ⟨Wx.heap.size, 0, none⟩ 1 1 [.string ⟨xt.toArray⟩] rfl rfl (World.news_of_block (Blk.new (l := [.string ⟨xt.toArray⟩]))) (by simp [Value.oneCell']) (by decide) (by simp only [maxLen]; omega) (by omega) (by simp; omega) (Wx.heap.size + 1) (by simp) ?_); intro g cap W6 hown hgrow hlie hg6; have oA : Only (fun k => v.ownBlock = some k) Wx W6 := ((Only.refl _ Wx).alloc _).trans (grown_only hgrow); have n3 : ¬ (v.ownBlock = some W.heap.size) := fun e => box_own h3 hrow e (by decide) rfl; have n5 : ¬ (v.ownBlock = some (W.heap.size + 1)) := fun e => box_own h5 hrow e (by decide) rfl; have y3 := boxO h3 oA n3; have y5 := boxO h5 oA n5; have f5 := y5.frozen; have k5 := y5.cell)
      have o6 : Only (fun k => k = W.heap.size + 1) W6 (W6.setCell ⟨W.heap.size + 1, 0, none⟩ (.slice (some ⟨g, 0, none⟩) ((fiZ xs pre).length + 1) cap)) := (Only.refl (fun k => k = W.heap.size + 1) W6).setCell (p := ⟨W.heap.size + 1, 0, none⟩) (.inl rfl) _
      have hgb : (Value.slice (some ⟨g, 0, none⟩) ((fiZ xs pre).length + 1) cap).ownBlock = some g := rfl
      have zA := oA.size
      have z6 := o6.size
      refine ⟨fun k => k = W.heap.size ∨ k = W.heap.size + 1 ∨ (Value.slice (some ⟨g, 0, none⟩) ((fiZ xs pre).length + 1) cap).ownBlock = some k, ?_, ?_, ?_, _, rfl, boxO y3 o6 (by omega), y5.set _, ?_⟩
      · rintro k (h | h | h)
        · exact .inl (.inl h)
        · exact .inl (.inr (.inl h))
        · rw [hgb] at h
          injection h with h
          subst h
          rcases hlie with h | h
          · exact .inl (.inr (.inr h))
          · exact .inr (by omega)
      · exact (oA.mono fun k _ h => .inr (.inr h)).trans (o6.mono fun k _ h => .inr (.inl h))
      · rintro k (rfl | rfl | h)
        · exact Nat.lt_of_lt_of_le y3.lt z6
        · exact Nat.lt_of_lt_of_le y5.lt z6
        · exact Nat.lt_of_lt_of_le (own_lt hown h).2 z6
      · rw [HV.out, HVL.out]
        exact own_only hown o6 fun k hk e => by
          subst e
          exact box_own y5 hown hk (by decide) rfl
    · have hb : (xs == s) = false := by simpa using hxs
      gi_wp2
      refine ⟨_, Grow.refl _ _, Only.refl _ _, hw, v, rfl, h3, h5, ?_⟩
      rw [HFS.out, if_neg hxs]
      exact hrow
  case done =>
    rintro D C ys Wx hD hCD rfl ⟨v, rfl, h3, h5, hrow⟩ hg ho hw hK
    have hzx := ho.size
    have c5 := h5.cell
    gi_wp2
    have nDv : ¬ v.ownBlock = some D := fun e => hCD (.inr (.inr e))
    refine ⟨by simp, .inl ⟨_, _, rfl, run_takeDeferred hK, ?_⟩⟩
    have oW : Only (fun _ => False) W Wx := (Only.of_below B4 _).step ho fun k hk e => by
      rcases e with h | h | h
      · omega
      · omega
      · simp [Value.ownBlock] at h
    have oX : Only (fun _ => False) W (Wx.putObj D (.deferred none)) := oW.putObj _ (.inr (by omega))
    refine ⟨_, results_tmp rfl _ _ _, v, rfl, own_only hrow ((Only.refl (fun k => k = D) Wx).putObj _ (.inl rfl)) fun k hk e => nDv (e ▸ hk), ?_⟩
    exact oX.below (Nat.le_refl _) fun _ _ h => h
  case stop =>
    rintro D c C pre Wx _ _ _ h
    exact h.elim
end Go.Proofs.Ytabgedmocdjkcaa
