/- Layer 14 (package walk): Pairs, Under: what they make; the iterator of Under. -/
import Derived.Test.YtabgedmocdjkcaaPairs14
namespace Go.Proofs.Ytabgedmocdjkcaa
open Go.RowKit Go.Shelf

/-- What is told of a node: what the iterator over it asks for. -/
structure Tells (n₀ M : Nat) (o : Nd) (W : World) : Prop where
  nd : NodeIs (fun k => n₀ ≤ k) W o
  n0 : n₀ ≤ W.heap.size
  cln : (ndF o).cln
  sz : (ndF o).sz ≤ M
  m : M ≤ 100000
  len : (prs o).length ≤ 100000
  tx : ∀ x ∈ prs o, x.1.length ≤ 1000000
theorem Tells.below {n₀ M : Nat} {o : Nd} {W W' : World} (h : Tells n₀ M o W) (hb : Below n₀ W W') (hz : W.heap.size ≤ W'.heap.size) : Tells n₀ M o W' :=
  { h with nd := node_below h.nd hb hz, n0 := Nat.le_trans h.n0 hz }
theorem Tells.seq {n₀ M : Nat} {o : Nd} {W : World} (h : Tells n₀ M o W) {Bn : Nat} (hB : Boxed W Bn 27 (ndP o)) :
    SeqO Try.prog 23 #[.pointer (some ⟨Bn, 0, none⟩)] encPr (fun k => n₀ ≤ k) (fun xs => xs = prs o) (fun pre => pre <+: prs o) W :=
  pairs_seqO Bn h.nd h.n0 h.cln h.sz h.m h.len h.tx hB
set_option maxRecDepth 100000 in
theorem walk_Pairs {n₀ M : Nat} {o : Nd} {W : World} (h : Tells n₀ M o W) :
    Calls Try.prog 15 #[ndP o] W fun e w' => ∃ X, e = .returned (.func (.func 23) #[] #[.pointer (some ⟨X, 0, none⟩)]) ∧ W.heap.size ≤ X ∧ Below W.heap.size W w' ∧
      SeqO Try.prog 23 #[.pointer (some ⟨X, 0, none⟩)] encPr (fun k => n₀ ≤ k) (fun xs => xs = prs o) (fun pre => pre <+: prs o) w' := by
  have H : Hid (∀ v, v = ndP o → SeqO Try.prog 23 #[.pointer (some ⟨W.heap.size, 0, none⟩)] encPr (fun k => n₀ ≤ k) (fun xs => xs = prs o) (fun pre => pre <+: prs o) (W.alloc (.cells #[v] 27))) := Lib.hid fun v hv => by
    subst hv
    exact (h.below ((new_below _ _).mono h.n0) (by simp)).seq (Boxed.new _ _ _)
  have hp : ∃ q, ndP o = .pointer q := by cases o <;> exact ⟨_, rfl⟩
  obtain ⟨q, hq⟩ := hp
  rw [hq] at H ⊢
  have h2 := H.out _ rfl
  clear h hq
  go_enter Try.func15, Try.ntmps15
  go_wp2
  go_ret
  exact ⟨_, rfl, Nat.le_refl _, new_below _ _, h2⟩

theorem only_drop {C : Nat → Prop} {W W' : World} {S : Nat → Prop} (h : Only (fun k => C k ∨ S k) W W') (hS : ∀ k, k < W.heap.size → S k → W'.heap[k]? = W.heap[k]?) : Only C W W' :=
  ⟨h.os, h.tape, h.output, h.size, fun i hi hc => by
    by_cases hs : S i
    · exact hS i hi hs
    · exact h.block i hi fun e => e.elim hc hs⟩
theorem twoU (W : World) (v : Value) : ∃ W2, W.alloc (.cells #[v] 43) = W2 ∧ Below W.heap.size W W2 ∧ W2.heap.size = W.heap.size + 1 ∧ Boxed W2 W.heap.size 43 v :=
  ⟨_, rfl, new_below _ _, by simp, Boxed.new _ _ _⟩
/-- Whom a filter covers. -/
def unZ (f : Key) (l : List Pr) : List Pr := l.filter fun x => coversZ f x.1
theorem unZ_snoc (f : Key) (l : List Pr) (x : Pr) : unZ f (l ++ [x]) = if coversZ f x.1 = true then unZ f l ++ [x] else unZ f l := by
  unfold unZ
  rw [List.filter_append]
  cases h : coversZ f x.1 <;> simp [h]
theorem unZ_pre (f : Key) {a b : List Pr} (h : a <+: b) : unZ f a <+: unZ f b := by
  obtain ⟨t, rfl⟩ := h
  exact ⟨unZ f t, (List.filter_append ..).symm⟩
attribute [local go_sem] Oper.semAt_some
set_option maxRecDepth 100000 in
set_option maxHeartbeats 4000000 in
theorem under_seqO {n₀ M : Nat} {o : Nd} {W0 : World} (h : Tells n₀ M o W0) {Bn Bf : Nat} (f : ByteArray) (hB : Boxed W0 Bn 27 (ndP o)) (hBf : Boxed W0 Bf 9 (.string f)) (hn : n₀ ≤ Bf) :
    SeqO Try.prog 29 #[.pointer (some ⟨Bn, 0, none⟩), .pointer (some ⟨Bf, 0, none⟩)] encPr (fun k => n₀ ≤ k ∧ k ≠ Bf) (fun xs => xs = unZ f.data.toList (prs o)) (fun pre => pre <+: unZ f.data.toList (prs o)) W0 := by
  intro l J Jx C W hb hA hw hJ hJx hY h0
  show Calls Try.prog 29 #[.func (.yield l) #[] #[], .pointer (some ⟨Bn, 0, none⟩), .pointer (some ⟨Bf, 0, none⟩)] W _
  have hz := hb.size
  have hbf := hBf.lt
  have hn0 : n₀ ≤ W.heap.size := Nat.le_trans h.n0 hz
  have hC : ∀ k, C k → n₀ ≤ k ∧ k ≠ Bf := fun k hk => (hA k hk).elim id fun e => ⟨by have := h.n0; omega, by omega⟩
  have bn := boxed_below hB hb hB.lt
  have bf := boxed_below hBf hb hBf.lt
  have HP : Hid (∀ W', Below W.heap.size W W' → Calls Try.prog 15 #[ndP o] W' fun e w' => ∃ X, e = .returned (.func (.func 23) #[] #[.pointer (some ⟨X, 0, none⟩)]) ∧ W'.heap.size ≤ X ∧ Below W'.heap.size W' w' ∧
      SeqO Try.prog 23 #[.pointer (some ⟨X, 0, none⟩)] encPr (fun k => n₀ ≤ k) (fun xs => xs = prs o) (fun pre => pre <+: prs o) w') := Lib.hid fun W' h' =>
    walk_Pairs ((h.below (hb.mono h.n0) hz).below (h'.mono hn0) h'.size)
  obtain ⟨q, hq⟩ : ∃ q, ndP o = .pointer q := by cases o <;> exact ⟨_, rfl⟩
  rw [hq] at bn HP
  have hbfW : Bf < W.heap.size := bf.lt
  have HY := Lib.hid hY
  have HJ := Lib.hid hJ
  have HJx := Lib.hid hJx
  have H0 := Lib.hid h0
  have HCn := Lib.hid hC
  have HW := Lib.hid hw
  clear hY hJ hJx h0 hC hw hA h hB hBf hq hb hz hbf
  have cn : ∀ ob, (W.alloc ob).cell? ⟨Bn, 0, none⟩ = some (.pointer q) := fun ob => (bn.alloc ob).cell
  refine (callsIn_wide (n := 9)).1 ?_
  refine callsIn_of_wp_marks Try.func29 rfl trivial ?_ rfl
  simp only [Try.ntmps29, List.size_toArray, List.length_cons, List.length_nil, Nat.reduceAdd, Nat.reduceSub, Array.replicate_succ, Array.replicate_zero, List.push_toArray, List.append_toArray, List.nil_append, List.cons_append]
  gi_wp2_with fail
  obtain ⟨W2, hW2, B2, z2, b3⟩ := twoU W (.func (.yield l) #[] #[])
  rw [hW2]
  clear hW2 cn
  have bf := boxed_below bf B2 hbfW
  refine ⟨trivial, (callsIn_wide.2 (HP.out W2 B2)).mono ?_⟩
  rintro e W3 ⟨X, rfl, hX, hB3, hseq⟩
  have B3 := below_step B2 hB3
  have b3 := boxed_below b3 hB3 b3.lt
  have bf := boxed_below bf hB3 bf.lt
  have z3 := hB3.size
  clear hB3 B2 bn
  gi_wp2_with fail
  have oW : Only C W W3 := Only.of_below B3 C
  obtain ⟨own, hown⟩ : ∃ own : Nat → Prop, own = fun k => k = W.heap.size ∨ k = Bf := ⟨_, rfl⟩
  have ownC : ∀ k, own k → ¬ C k := fun k hk hc => by
    rw [hown] at hk
    rcases hk with rfl | rfl
    · exact absurd (HW.out _ hc) (by omega)
    · exact (HCn.out _ hc).2 rfl
  have own8 : ∀ k, own k → k < W3.heap.size := fun k hk => by rw [hown] at hk; rcases hk with h | h <;> omega
  have ownn : ∀ k, own k → n₀ ≤ k := fun k hk => by rw [hown] at hk; rcases hk with h | h <;> omega
  have own3 : own W.heap.size := by rw [hown]; exact .inl rfl
  have ownf : own Bf := by rw [hown]; exact .inr rfl
  have HD : Hid (∀ Wx, Only (fun k => C k ∨ own k) W3 Wx → Boxed Wx Bf 9 (.string f) → Only C W Wx) := Lib.hid fun Wx ho hbx => by
    have h1 : Only (fun k => C k ∨ own k) W Wx := (oW.mono (T := fun k => C k ∨ own k) fun _ _ h => .inl h).trans ho
    refine only_drop h1 fun k hk hs => ?_
    rw [hown] at hs
    rcases hs with rfl | rfl
    · omega
    · have e1 : Wx.heap[k]? = W3.heap[k]? := Eq.trans hbx (Eq.symm bf)
      exact e1.trans (oW.block _ hk (fun h => (HCn.out _ h).2 rfl))
  refine wpIn_rangeO (by omega) (gf := 23) (lb := #[.pointer (some ⟨X, 0, none⟩)]) rfl (enters_of Try.func23 (by kernel_rfl) rfl)
    hseq (Below.refl _ _) (fun _ => rfl)
    (fun C' pre Wx => ∃ C2, C' = (fun k => C2 k ∨ own k) ∧ (∀ k, own k → ¬ C2 k) ∧ Grow C C2 W ∧ J C2 (unZ f.data.toList pre) Wx ∧ Boxed Wx W.heap.size 43 (.func (.yield l) #[] #[]) ∧ Boxed Wx Bf 9 (.string f))
    (fun c C' pre Wx => c = .ret ∧ ∃ C2, C' = (fun k => C2 k ∨ own k) ∧ (∀ k, own k → ¬ C2 k) ∧ Grow C C2 W ∧ Jx C2 (unZ f.data.toList pre) Wx ∧ Boxed Wx Bf 9 (.string f))
    ?hI ?hIx (fun k => C k ∨ own k) ?hC ?hw ?h0
    (fun x => { tmps := #[.func (.yield l) #[] #[], .pointer (some ⟨Bn, 0, none⟩), .pointer (some ⟨Bf, 0, none⟩), .pointer (some ⟨W.heap.size, 0, none⟩), strV x.1, .int .i64 x.2, .pointer q, .func (.func 23) #[] #[.pointer (some ⟨X, 0, none⟩)], strV x.1, .int .i64 x.2, undef, undef, undef, undef, undef, undef, undef, undef, undef, undef], defers := [] }) ?assign ?body ?done ?stop
  case hI =>
    rintro C' s Wx Wy ⟨C2, rfl, h1, h2, h3, h4, h5⟩ hw ho
    exact ⟨C2, rfl, h1, h2, HJ.out _ _ _ _ h3 (fun k hk => hw k (.inl hk)) (ho.mono fun k _ hk h => hk (.inl h)), boxO h4 ho fun h => h (.inr own3), boxO h5 ho fun h => h (.inr ownf)⟩
  case hIx =>
    rintro c C' s Wx Wy ⟨hc, C2, rfl, h1, h2, h3, h5⟩ hw ho
    exact ⟨hc, C2, rfl, h1, h2, HJx.out _ _ _ _ h3 (fun k hk => hw k (.inl hk)) (ho.mono fun k _ hk h => hk (.inl h)), boxO h5 ho fun h => h (.inr ownf)⟩
  case hC =>
    rintro k (h | h)
    · exact .inl (HCn.out k h).1
    · exact .inl (ownn k h)
  case hw =>
    rintro k (h | h)
    · exact HW.out.le oW.size k h
    · exact own8 k h
  case h0 => exact ⟨C, rfl, ownC, Grow.refl _ _, HJ.out _ _ _ _ H0.out HW.out (Only.of_below B3 _), b3, bf⟩
  case assign =>
    intro l2 x Wx K hK
    gi_wp2
    exact hK
  case body =>
    rintro l2 C' pre x Wx hpx ⟨C2, rfl, h1, h2, h3, h4, h5⟩ hg ho hw
    have c4 := h4.cell
    have c5 := h5.cell
    have hcov := match_Covers f ⟨x.1.toArray⟩
    have hgo : Only C W Wx := HD.out _ ho h5
    have hsn := unZ_snoc f.data.toList pre x
    have HPX := Lib.hid hpx
    have HSN := Lib.hid hsn
    rw [show strV x.1 = Value.string ⟨x.1.toArray⟩ from rfl] at *
    have HCV : Hid (∀ w, Calls Try.prog 30 #[.string f, .string ⟨x.1.toArray⟩] w fun e w' => e = .returned (.bool (coversZ f.data.toList x.1)) ∧ Below w.heap.size w w') := Lib.hid hcov
    clear hcov hsn hpx
    cases hcz : coversZ f.data.toList x.1
    · rw [hcz] at HCV
      gi_wp2_with fail
      refine ⟨trivial, (CallsIn.inRound l2 (callsIn_wide.2 (HCV.out Wx))).mono ?_⟩
      rintro e W5 ⟨rfl, hB5⟩
      gi_wp2
      refine ⟨fun _ h => (nomatch h), ?_⟩
      gi_wp2
      have hs := HSN.out
      rw [hcz, if_neg (by decide)] at hs
      have ww : Wn (fun k => C2 k ∨ own k) W5 := hw.le hB5.size
      refine ⟨_, Grow.refl _ _, Only.of_below hB5 _, ww, C2, rfl, h1, h2, ?_, boxed_below h4 hB5 h4.lt, boxed_below h5 hB5 h5.lt⟩
      rw [hs]
      exact HJ.out _ _ _ _ h3 (fun k hk => hw k (.inl hk)) (Only.of_below hB5 _)
    · rw [hcz] at HCV
      gi_wp2_with fail
      refine ⟨trivial, (CallsIn.inRound l2 (callsIn_wide.2 (HCV.out Wx))).mono ?_⟩
      rintro e W5 ⟨rfl, hB5⟩
      have hs := HSN.out
      rw [hcz, if_pos rfl] at hs
      have h4 := boxed_below h4 hB5 h4.lt
      have h5 := boxed_below h5 hB5 h5.lt
      have c4 := h4.cell
      have oB : Only (fun k => C2 k ∨ own k) Wx W5 := Only.of_below hB5 _
      have hgo5 : Only C W W5 := hgo.trans (Only.of_below hB5 _)
      have h3 := HJ.out _ _ _ _ h3 (fun k hk => hw k (.inl hk)) (Only.of_below hB5 _)
      have hw5 : Wn (fun k => C2 k ∨ own k) W5 := hw.le hB5.size
      obtain ⟨fn, tm, asg, bd, hy, hR⟩ := HY.out C2 (unZ f.data.toList pre) x W5 (by rw [← hs]; exact unZ_pre _ HPX.out) h3 h2 hgo5 (fun k hk => hw5 k (.inl hk)) 0
      dsimp only [encPr] at hy
      rw [show strV x.1 = Value.string ⟨x.1.toArray⟩ from rfl] at hy
      gi_wp2_with fail
      refine RoundIn.mono (F := Fence.wide.inRound l2) (round_any (F := Fence.wide.inRound l2) rfl hR) ?_
      rintro e Wy ⟨C3, g3, o3, w3, ⟨rfl, j3⟩ | ⟨rfl, j3⟩⟩
      all_goals
        have n3 : ∀ k, own k → ¬ C3 k := fun k hk => g3.not (hw5 k (.inr hk)) (h1 k hk)
        have y4 := boxO h4 o3 (h1 _ own3)
        have y5 := boxO h5 o3 (h1 _ ownf)
        have z3 := o3.size
        have gg : Grow C C3 W := h2.trans g3 hgo5.size
        have go' : Grow (fun k => C2 k ∨ own k) (fun k => C3 k ∨ own k) Wx := fun k hk => hk.elim (fun h => (g3 k h).imp .inl fun e => Nat.le_trans hB5.size e) fun h => .inl (.inr h)
        have oo : Only (fun k => C2 k ∨ own k) Wx Wy := oB.trans (o3.mono fun k _ h => .inl h)
        have ww : Wn (fun k => C3 k ∨ own k) Wy := fun k hk => hk.elim (w3 k) fun h => Nat.lt_of_lt_of_le (hw5 k (.inr h)) z3
        rw [← hs] at j3
      · gi_wp2
        exact ⟨_, go', oo, ww, C3, rfl, n3, gg, j3, y4, y5⟩
      · gi_wp2
        exact ⟨_, go', oo, ww, rfl, C3, rfl, n3, gg, j3, y5⟩
  case done =>
    rintro D C' ys Wx hD hCD rfl ⟨C2, rfl, h1, h2, h3, h4, h5⟩ hg ho hw hK
    have hgo : Only C W Wx := HD.out _ ho h5
    gi_wp2
    refine ⟨by simp, .inl ⟨_, _, rfl, run_takeDeferred hK, ?_⟩⟩
    refine ⟨_, results_none rfl _ _ _, ⟨_, rfl⟩, C2, h2, hgo.putObj _ (.inr (by omega)), ?_, .inl ?_⟩
    · exact fun k hk => by have := hw k (.inl hk); simpa using this
    · exact HJ.out _ _ _ _ h3 (fun k hk => hw k (.inl hk)) ((Only.refl _ Wx).putObj _ (.inl fun h => hCD (.inl h)))
  case stop =>
    rintro D c C' pre Wx hD hCD hp ⟨rfl, C2, rfl, h1, h2, h3, h5⟩ hg ho hw hK
    have hgo : Only C W Wx := HD.out _ ho h5
    gi_wp2
    refine ⟨by simp, .inl ⟨_, _, rfl, run_takeDeferred hK, ?_⟩⟩
    refine ⟨_, results_none rfl _ _ _, ⟨_, rfl⟩, C2, h2, hgo.putObj _ (.inr (by omega)), ?_, .inr ⟨_, unZ_pre _ hp, ?_⟩⟩
    · exact fun k hk => by have := hw k (.inl hk); simpa using this
    · exact HJx.out _ _ _ _ h3 (fun k hk => hw k (.inl hk)) ((Only.refl _ Wx).putObj _ (.inl fun h => hCD (.inl h)))
end Go.Proofs.Ytabgedmocdjkcaa
