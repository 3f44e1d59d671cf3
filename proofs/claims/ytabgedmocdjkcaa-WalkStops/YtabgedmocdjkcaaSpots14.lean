/- Layer 14 (package walk): parted, spots: a node's kids, the last one first. -/
import Derived.Test.YtabgedmocdjkcaaRev14
import Derived.Deep.AppendLies
namespace Go.Proofs.Ytabgedmocdjkcaa
open Go.RowKit Go.Shelf

section
variable {P : Program} {F : Fence} {n : Nat}
/-- 'append' within a fence, and where what comes of it lies. -/
theorem wpListIn_append_lies (w : World) {ops : Array Oper} {rest : List Oper} {o : Oper} {a : Act} {Q : Exit → Act → World → Prop} (hgd : o.guard = none) (s x : Operand) (t : TypeId)
    (ho : o.op = .call { callee := .builtin .append, args := #[s, x], argTypes := #[t, t] })
    (base : Nat) (e : TypeId) (i : TypeInfo) (z : Value) (size bytes : Nat) (ht : P.underlying t = some (.slice e)) (hi : P.info? e = some i) (hz : i.zero = some z)
    (hsize : i.size = size) (hby : i.bytes = bytes) (hzs : z.cells.size = size) (hsz : 0 < size)
    (v : Value) (k : Nat) (xs : List Value) (hs : a.eval s = v) (hown : w.ownsRow base e size v k xs)
    (ad : Addr) (m c : Nat) (news : List Value) (hx : a.eval x = .slice (some ad) m c) (hl : news.length = m * size) (hnews : ∀ j u, news[j]? = some u → w.cell? (ad.add j) = some u) (h1 : ∀ u ∈ news, u.oneCell' = true)
    (hm : 0 < m) (h63 : k + m ≤ maxLen) (hbytes : (k + m) * bytes ≤ 140737488355328) (hbase : base ≤ w.heap.size) (H : Nat) (hH : w.heap.size = H)
    (h : ∀ g cap w', w'.ownsRow base e size (.slice (some ⟨g, 0, none⟩) (k + m) cap) (k + m) (xs ++ news) → w.grownBy w' v.ownBlock → (v.ownBlock = some g ∨ g = H) → g < w'.heap.size → wpListIn F n P ops Q rest (a.put o.dst (.slice (some ⟨g, 0, none⟩) (k + m) cap)) w') :
    wpListIn F n P ops Q (o :: rest) a w := by
  refine wpListIn_plain hgd fun K hK => ?_
  obtain ⟨g, cap, w', hr, h2, h3, h4, h5⟩ := run_append_lies (P := P) w t o.type base e i z size bytes ht hi hz hsize hby hzs hsz v k xs hown ad m c news hl hnews h1 hm h63 hbytes hbase H hH
  unfold Oper.wpIn
  refine ⟨?_, ?_⟩
  · simp [Oper.about, ho, resolve, Target.leads, Sem.run_pure]
  · rw [Oper.semAt_plain F _ _ (by rw [ho]; intro c hc; cases hc)]
    simp [execOp, ho, resolve, invoke, builtin, hs, hx, hr, Result.andThen]
    exact hK _ _ (h g cap w' h2 h3 h4 h5)
end

theorem ents_cln : ∀ {F : Fo}, F.cln → ∀ p ∈ F.ents, 47 ∉ p.1
  | .nil, _, p, h => by simp [Fo.ents] at h
  | .cons k b L F R, hc, p, h => by
    rw [Fo.ents, List.mem_cons] at h
    rcases h with rfl | h
    · exact hc.1
    · exact ents_cln hc.2.2 p h
def entV (a : Nat) (p : Ent) : List Value := [.int .i64 (a : Int), keyV p.1, ptrV p.2]
theorem entV_len (a : Nat) (p : Ent) : (entV a p).length = 3 := rfl
theorem kids_ents (a : Nat) : ∀ F : Fo, (kidsOf a F).flatMap spotV = F.ents.flatMap (entV a)
  | .nil => rfl
  | .cons k b L F R => by
    simp only [kidsOf, Fo.ents, List.flatMap_cons, kids_ents a R]
    simp [spotV, entV, ptrV]
theorem kids_len (a : Nat) : ∀ F : Fo, (kidsOf a F).length = F.ents.length
  | .nil => rfl
  | .cons k b L F R => by simp [kidsOf, Fo.ents, kids_len a R]

/-- A node's kids, ranged over by who has blocks from n₀ on. -/
theorem kids_seqO (Bn n₀ : Nat) (s : Value) (E : List Ent) (hbig : E.length ≤ 1000000) (w : World) (hBn : Bn < w.heap.size) (hn0 : n₀ ≤ w.heap.size) (hc : w.cell? ⟨Bn, 0, none⟩ = some s) (hs : PtsIn w s E) (hoff : E = [] ∨ Off (fun k => n₀ ≤ k) s) :
    SeqO Try.prog 71 #[.pointer (some ⟨Bn, 0, none⟩)] encK (fun k => n₀ ≤ k) (fun ys => ys = E) (fun pre => pre <+: E) w := by
  intro l J Jx C W hb hA hw hJ hJx hY h0
  have hC : ∀ k, C k → n₀ ≤ k := fun k hk => (hA k hk).elim id fun h => by omega
  have hz := hb.size
  refine (callsIn_wide (n := 3)).1 ((kids_each1 3 (by omega) l Bn s E hbig (fun pre W1 => ∃ C1, Grow C C1 W ∧ Only C W W1 ∧ Wn C1 W1 ∧ J C1 pre W1) (fun pre W1 => ∃ C1, Grow C C1 W ∧ Only C W W1 ∧ Wn C1 W1 ∧ Jx C1 pre W1) W ?_ ?_ ((hb.cell (p := ⟨Bn, 0, none⟩) hBn).trans hc) (hs.below hb) ⟨C, Grow.refl _ _, Only.refl _ _, hw, h0⟩).mono ?_)
  · rintro pre W1 o ⟨C1, g1, o1, w1, j1⟩
    exact ⟨C1, g1, o1.alloc o, w1.le (by simp), hJ _ _ _ _ j1 w1 ((Only.refl _ W1).alloc o)⟩
  · rintro pre x W1 hx hp ⟨C1, g1, o1, w1, j1⟩ hlt
    obtain ⟨fn, tm, asg, bd, hy, hR⟩ := hY C1 pre x W1 hp j1 g1 o1 w1 (3 - 1)
    refine ⟨fn, tm, asg, bd, hy, hR.mono ?_⟩
    rintro e W2 ⟨C2, g2, o2, w2, h⟩
    have z1 := o1.size
    have gg := g1.trans g2 z1
    have oo := o1.grow o2 g1
    rcases h with ⟨rfl, h⟩ | ⟨rfl, h⟩
    · refine .inl ⟨rfl, ⟨C2, gg, oo, w2, h⟩, kpS_only o2 fun g off m c he hc1 => ?_⟩
      rcases hoff with e0 | hoff
      · rw [e0] at hx; simp at hx
      · have hlow := hoff g off m c he
        rcases g1 g hc1 with h | h
        · exact hlow (hC g h)
        · exact hlow (by omega)
    · exact .inr ⟨rfl, C2, gg, oo, w2, h⟩
  · rintro e W' ⟨hv, ⟨ys, hS, C1, g1, o1, w1, j1⟩ | ⟨pre, hS, C1, g1, o1, w1, j1⟩⟩
    · exact ⟨hv, C1, g1, o1, w1, .inl ⟨ys, hS, j1⟩⟩
    · exact ⟨hv, C1, g1, o1, w1, .inr ⟨pre, hS, j1⟩⟩
theorem kidsIn_pts {W : World} {s : Value} {E : List Ent} (h : KidsIn W (.agg #[s]) E) : PtsIn W s E := by
  obtain ⟨⟨s', hv, hs⟩, _⟩ := h
  cases hv; exact hs
/-- Kids' answer: a range over the kids. -/
theorem nd_Kid14 {n₀ : Nat} {W : World} {o : Nd} (h : NodeIs (fun k => n₀ ≤ k) W o) (hn0 : n₀ ≤ W.heap.size) (hbig : (ndF o).sz ≤ 1000000) :
    Calls Try.prog 33 #[ndP o] W fun e w' => ∃ X, e = .returned (.func (.func 71) #[] #[.pointer (some ⟨X, 0, none⟩)]) ∧ Below W.heap.size W w' ∧
      SeqO Try.prog 71 #[.pointer (some ⟨X, 0, none⟩)] encK (fun k => n₀ ≤ k) (fun ys => ys = (ndF o).ents) (fun pre => pre <+: (ndF o).ents) w' := by
  obtain ⟨s, hk, hcell, hcall⟩ := nd_Kids (ndP o) _ _ _ W h.pis
  have hoff : (ndF o).ents = [] ∨ Off (fun k => n₀ ≤ k) s := by
    cases o with
    | none => exact .inl rfl
    | some x =>
      obtain ⟨⟨a1, n1, c1, a2, n2, c2, hb, _, _, _, ho2, _⟩, _⟩ := h
      have h1 := hcell x.1 rfl
      rw [hb.at (o := 1) rfl] at h1
      injection h1 with h1
      subst h1
      exact .inr ho2
  refine (hcall W (Below.refl _ _)).mono ?_
  rintro e w' ⟨W1, hB, rfl, rfl⟩
  have hB2 := below_step hB (new_below W1 (.cells #[s] 81))
  have hz := hB.size
  refine ⟨W1.heap.size, rfl, hB2, kids_seqO _ n₀ s _ (Nat.le_trans (fo_sz _) hbig) _ (by simp) (by simp; omega) (Boxed.new W1 _ s).cell ((kidsIn_pts hk).below hB2) hoff⟩

theorem twoP (W : World) (v : Value) : ∃ W2, (W.alloc (.cells #[v] 27)).alloc (.cells #[.pointer none] 27) = W2 ∧ Below W.heap.size W W2 ∧ W2.heap.size = W.heap.size + 2 ∧ Boxed W2 W.heap.size 27 v := by
  refine ⟨_, rfl, below_step (new_below _ _) (new_below _ _), by simp, (Boxed.new _ _ _).alloc _⟩
attribute [local go_sem] Oper.semAt_some
set_option maxRecDepth 100000 in
set_option maxHeartbeats 4000000 in
theorem walk_parted {n₀ : Nat} {o : Nd} {W : World} (ho : NodeIs (fun k => n₀ ≤ k) W o) (hn0 : n₀ ≤ W.heap.size) (hcl : (ndF o).cln) (hbig : (ndF o).sz ≤ 1000000) :
    Calls Try.prog 32 #[ndP o] W fun e w' => e = .returned (ndP o) ∧ Below W.heap.size W w' := by
  have HK : Hid (∀ W', Below W.heap.size W W' → Calls Try.prog 33 #[ndP o] W' fun e w' => ∃ X, e = .returned (.func (.func 71) #[] #[.pointer (some ⟨X, 0, none⟩)]) ∧ Below W'.heap.size W' w' ∧
      SeqO Try.prog 71 #[.pointer (some ⟨X, 0, none⟩)] encK (fun k => n₀ ≤ k) (fun ys => ys = (ndF o).ents) (fun pre => pre <+: (ndF o).ents) w') := Lib.hid fun W' hb =>
    nd_Kid14 (node_below ho (hb.mono hn0) hb.size) (Nat.le_trans hn0 hb.size) hbig
  have HE := Lib.hid (ents_cln hcl)
  have hp : ∃ q, ndP o = .pointer q := by cases o <;> exact ⟨_, rfl⟩
  clear ho hcl hbig
  generalize (ndF o).ents = E at *
  generalize ndP o = po at *
  obtain ⟨q, rfl⟩ := hp
  refine (callsIn_wide (n := 9)).1 ?_
  refine callsIn_of_wp_marks Try.func32 rfl trivial ?_ rfl
  simp only [Try.ntmps32, List.size_toArray, List.length_cons, List.length_nil, Nat.reduceAdd, Nat.reduceSub, Array.replicate_succ, Array.replicate_zero, List.push_toArray, List.append_toArray, List.nil_append, List.cons_append]
  gi_wp2_with fail
  obtain ⟨W2, hW2, B2, z2, b3⟩ := twoP W (.pointer q)
  rw [hW2]
  clear hW2
  refine ⟨trivial, (callsIn_wide.2 (HK.out W2 B2)).mono ?_⟩
  rintro e W3 ⟨X, rfl, hB3, hseq⟩
  have B3 := below_step B2 hB3
  have b3 := boxed_below b3 hB3 b3.lt
  have z3 := hB3.size
  clear hB3 B2
  gi_wp2_with fail
  refine wpIn_rangeO (by omega) (gf := 71) (lb := #[.pointer (some ⟨X, 0, none⟩)]) rfl (enters_of Try.func71 (by kernel_rfl) rfl)
    hseq (Below.refl _ _) (fun _ => rfl)
    (fun C pre Wx => C = (fun k => k = W.heap.size) ∧ Boxed Wx W.heap.size 27 (.pointer q))
    (fun _ _ _ _ => False)
    ?hI ?hIx (fun k => k = W.heap.size) ?hC ?hw ?h0
    (fun x => { tmps := #[.pointer q, undef, .pointer none, .pointer (some ⟨W.heap.size, 0, none⟩), .pointer (some ⟨W.heap.size + 1, 0, none⟩), keyV x.1, ptrV x.2, undef, undef, undef, undef, .pointer q, .pointer q, .func (.func 71) #[] #[.pointer (some ⟨X, 0, none⟩)], keyV x.1, ptrV x.2, undef, undef, undef, undef, undef, undef, undef, undef, undef, undef, undef, undef, undef, undef, undef, undef, undef, undef, undef, undef, undef, undef], defers := [] }) ?assign ?body ?done ?stop
  case hI =>
    rintro C s Wx Wy ⟨rfl, h4⟩ hw ho
    exact ⟨rfl, boxO h4 ho fun h => h rfl⟩
  case hIx => exact fun _ _ _ _ _ h _ _ => h
  case hC => rintro k rfl; exact .inl hn0
  case hw => rintro k rfl; exact b3.lt
  case h0 => exact ⟨rfl, b3⟩
  case assign =>
    intro l2 x Wx K hK
    gi_wp2
    exact hK
  case body =>
    rintro l2 C pre x Wx hpx ⟨rfl, h4⟩ hg ho hw
    have hx : 47 ∉ x.1 := HE.out x (hpx.subset (by simp))
    have hcut := strings_Cut_none ⟨x.1.toArray⟩ Wx (by simpa using hx)
    rw [show Value.string ⟨x.1.toArray⟩ = keyV x.1 from rfl] at hcut
    generalize keyV x.1 = kv at *
    generalize ptrV x.2 = pv at *
    gi_wp2_with fail
    refine ⟨trivial, (CallsIn.inRound l2 (callsIn_wide.2 hcut)).mono ?_⟩
    rintro e W5 ⟨rfl, rfl⟩
    gi_wp2
    exact ⟨_, Grow.refl _ _, Only.refl _ _, hw, rfl, h4⟩
  case done =>
    rintro D C ys Wx hD hCD hys ⟨rfl, h4⟩ hg ho hw hK
    have c4 := h4.cell
    gi_wp2
    refine ⟨by simp, .inl ⟨_, _, rfl, run_takeDeferred hK, ?_⟩⟩
    refine ⟨_, results_tmp rfl _ _ _, rfl, ?_⟩
    have oX : Only (fun _ => False) W (Wx.putObj D (.deferred none)) := ((Only.of_below B3 _).step ho fun k hk e => by omega).putObj _ (.inr (by omega))
    exact oX.below (Nat.le_refl _) fun _ _ h => h
  case stop =>
    rintro D c C pre Wx _ _ _ h
    exact h.elim
theorem twoS (W : World) (a : Nat) : ∃ W2, (W.alloc (.cells #[.int .i64 (a : Int)] 3)).alloc (.cells #[.slice none 0 0] 47) = W2 ∧ Below W.heap.size W W2 ∧ W2.heap.size = W.heap.size + 2 ∧ Boxed W2 W.heap.size 3 (.int .i64 (a : Int)) ∧ Boxed W2 (W.heap.size + 1) 47 (.slice none 0 0) := by
  refine ⟨_, rfl, below_step (new_below _ _) (new_below _ _), by simp, (Boxed.new _ _ _).alloc _, ?_⟩
  have := Boxed.new (W.alloc (.cells #[.int .i64 (a : Int)] 3)) 47 (.slice none 0 0)
  rw [World.size_alloc] at this; exact this
theorem box_own {W : World} {B base g k size : Nat} {t e : TypeId} {u v : Value} {xs : List Value} (h : Boxed W B t u) (ho : W.ownsRow base e size v k xs) (hg : v.ownBlock = some g) (hne : t ≠ e) : B ≠ g :=
  blk_apart (l := [u]) h ho hg hne
theorem own_lt {W : World} {base g k size : Nat} {e : TypeId} {v : Value} {xs : List Value} (ho : W.ownsRow base e size v k xs) (hg : v.ownBlock = some g) : base ≤ g ∧ g < W.heap.size := by
  obtain ⟨l, cap, _, h1, h2, _⟩ := own_heap ho hg
  exact ⟨h1, h2.lt⟩
/-- Where spots stands in its loop: its boxes, its row. -/
structure SpSt (W : World) (a : Nat) (C : Nat → Prop) (pre : List Ent) (Wx : World) : Prop where
  ex : ∃ v, C = (fun k => k = W.heap.size ∨ k = W.heap.size + 1 ∨ v.ownBlock = some k) ∧ Boxed Wx W.heap.size 3 (.int .i64 (a : Int)) ∧ Boxed Wx (W.heap.size + 1) 47 v ∧ Wx.ownsRow W.heap.size 50 3 v pre.length (pre.flatMap (entV a))
set_option maxRecDepth 100000 in
set_option maxHeartbeats 4000000 in
theorem walk_spots {n₀ : Nat} {o : Nd} {W : World} (a : Nat) (ho : NodeIs (fun k => n₀ ≤ k) W o) (hn0 : n₀ ≤ W.heap.size) (hcl : (ndF o).cln) (hbig : (ndF o).sz ≤ 100000) :
    Calls Try.prog 24 #[ndP o, .int .i64 (a : Int)] W fun e w' => ∃ v, e = .returned v ∧ w'.ownsRow W.heap.size 50 3 v (kidsOf a (ndF o)).reverse.length ((kidsOf a (ndF o)).reverse.flatMap spotV) ∧ Below W.heap.size W w' := by
  obtain ⟨i0, hi, hz0, hz1, hz2⟩ := info_parts infoSpot
  have HK : Hid (∀ W', Below W.heap.size W W' → Calls Try.prog 33 #[ndP o] W' fun e w' => ∃ X, e = .returned (.func (.func 71) #[] #[.pointer (some ⟨X, 0, none⟩)]) ∧ Below W'.heap.size W' w' ∧
      SeqO Try.prog 71 #[.pointer (some ⟨X, 0, none⟩)] encK (fun k => n₀ ≤ k) (fun ys => ys = (ndF o).ents) (fun pre => pre <+: (ndF o).ents) w') := Lib.hid fun W' hb =>
    nd_Kid14 (node_below ho (hb.mono hn0) hb.size) (Nat.le_trans hn0 hb.size) (by omega)
  have HP : Hid (∀ W', Below W.heap.size W W' → Calls Try.prog 32 #[ndP o] W' fun e w' => e = .returned (ndP o) ∧ Below W'.heap.size W' w') := Lib.hid fun W' hb =>
    walk_parted (node_below ho (hb.mono hn0) hb.size) (Nat.le_trans hn0 hb.size) hcl (by omega)
  have HL : Hid ((ndF o).ents.length ≤ 100000) := Lib.hid (Nat.le_trans (fo_sz _) hbig)
  have HR : Hid (∀ v w, w.ownsRow W.heap.size 50 3 v (ndF o).ents.length ((ndF o).ents.flatMap (entV a)) → Calls Try.prog 34 #[v] w fun e w' => e = .returned (.tuple #[]) ∧ w'.ownsRow W.heap.size 50 3 v (kidsOf a (ndF o)).reverse.length ((kidsOf a (ndF o)).reverse.flatMap spotV) ∧ Only (fun k => v.ownBlock = some k) w w') := Lib.hid fun v w h =>
    rev_spots W.heap.size v (kidsOf a (ndF o)) w (by rw [kids_len, kids_ents]; exact h) (by rw [kids_len]; have := HL.out; omega)
  have hp : ∃ q, ndP o = .pointer q := by cases o <;> exact ⟨_, rfl⟩
  generalize hRS : (kidsOf a (ndF o)).reverse = RS at *
  clear ho hcl hbig hRS
  generalize (ndF o).ents = E at *
  generalize ndP o = po at *
  obtain ⟨q, rfl⟩ := hp
  refine (callsIn_wide (n := 9)).1 ?_
  refine callsIn_of_wp_marks Try.func24 rfl trivial ?_ rfl
  simp only [Try.ntmps24, List.size_toArray, List.length_cons, List.length_nil, Nat.reduceAdd, Nat.reduceSub, Array.replicate_succ, Array.replicate_zero, List.push_toArray, List.append_toArray, List.nil_append, List.cons_append]
  gi_wp2_with fail
  obtain ⟨W2, hW2, B2, z2, b3, b5⟩ := twoS W a
  rw [hW2]
  clear hW2
  refine ⟨trivial, (callsIn_wide.2 (HP.out W2 B2)).mono ?_⟩
  rintro e W3 ⟨rfl, hB3⟩
  have B3 := below_step B2 hB3
  have b3 := boxed_below b3 hB3 b3.lt
  have b5 := boxed_below b5 hB3 b5.lt
  have z3 := hB3.size
  clear hB3 B2
  gi_wp2_with fail
  refine ⟨trivial, (callsIn_wide.2 (HK.out W3 B3)).mono ?_⟩
  rintro e W4 ⟨X, rfl, hB4, hseq⟩
  have B4 := below_step B3 hB4
  have b3 := boxed_below b3 hB4 b3.lt
  have b5 := boxed_below b5 hB4 b5.lt
  have z4 := hB4.size
  clear hB4 B3
  gi_wp2_with fail
  refine wpIn_rangeO (by omega) (gf := 71) (lb := #[.pointer (some ⟨X, 0, none⟩)]) rfl (enters_of Try.func71 (by kernel_rfl) rfl)
    hseq (Below.refl _ _) (fun _ => rfl)
    (SpSt W a)
    (fun _ _ _ _ => False)
    ?hI ?hIx (fun k => k = W.heap.size ∨ k = W.heap.size + 1 ∨ (Value.slice none 0 0).ownBlock = some k) ?hC ?hw ?h0
    (fun x => { tmps := #[.pointer q, .int .i64 (a : Int), undef, .pointer (some ⟨W.heap.size, 0, none⟩), .slice none 0 0, .pointer (some ⟨W.heap.size + 1, 0, none⟩), keyV x.1, ptrV x.2, .pointer q, .pointer q, .func (.func 71) #[] #[.pointer (some ⟨X, 0, none⟩)], keyV x.1, ptrV x.2, undef, undef, undef, undef, undef, undef, undef, undef, undef, undef], defers := [] }) ?assign ?body ?done ?stop
  case hI =>
    rintro C s Wx Wy ⟨v, rfl, h3, h5, hr⟩ hw ho
    exact ⟨v, rfl, boxO h3 ho fun h => h (.inl rfl), boxO h5 ho fun h => h (.inr (.inl rfl)), own_only hr ho fun k hk h => h (.inr (.inr hk))⟩
  case hIx => exact fun _ _ _ _ _ h _ _ => h
  case hC =>
    rintro k (rfl | rfl | h)
    · exact .inl hn0
    · exact .inl (by omega)
    · simp [Value.ownBlock] at h
  case hw =>
    rintro k (rfl | rfl | h)
    · exact b3.lt
    · exact b5.lt
    · simp [Value.ownBlock] at h
  case h0 => exact ⟨_, rfl, b3, b5, World.ownsRow_nil _ _ _ _⟩
  case assign =>
    intro l2 x Wx K hK
    gi_wp2
    exact hK
  case body =>
    rintro l2 C pre x Wx hpx ⟨v, rfl, h3, h5, hrow⟩ hg ho hw
    have hlt : pre.length < 100000 := by
      have h1 := hpx.length_le
      have h2 := HL.out
      rw [List.length_append, List.length_singleton] at h1; omega
    have hzx := ho.size
    have c3 := h3.cell
    have c5 := h5.cell
    have hev : entV a x = [.int .i64 (a : Int), keyV x.1, ptrV x.2] := rfl
    have hfl : (pre ++ [x]).flatMap (entV a) = pre.flatMap (entV a) ++ [.int .i64 (a : Int), keyV x.1, ptrV x.2] := by simp [entV]
    have HV := Lib.hid hfl
    clear hfl hev
    obtain ⟨kb, hkb⟩ : ∃ b, keyV x.1 = .string b := ⟨_, rfl⟩
    obtain ⟨pb, hpb⟩ : ∃ b, ptrV x.2 = .pointer b := ⟨_, rfl⟩
    have hV2 := HV.out
    rw [hkb, hpb] at hV2 ⊢
    have HV := Lib.hid hV2
    clear hkb hpb hV2
    have one : ∀ u ∈ [Value.int .i64 (a : Int), .string kb, .pointer pb], u.oneCell' = true := fun u hu => by
      simp only [List.mem_cons, List.not_mem_nil, or_false] at hu
      rcases hu with rfl | rfl | rfl <;> rfl
    gi_wp2_with (gi_at_builtin; go_loud (refine wpListIn_append_lies _ rfl _ _ 47 rfl W.heap.size 50 i0 (.agg #[.int .i64 0, .string ⟨#[]⟩, .pointer none]) 3 32 Try.underlying47 hi hz0 hz1 hz2 rfl (by decide) _ _ _ rfl (hrow.alloc _) ⟨Wx.heap.size, 0, none⟩ 1 1 [.int .i64 (a : Int), .string kb, .pointer pb] rfl rfl (World.news_of_block (Blk.new (l := [.int .i64 (a : Int), .string kb, .pointer pb]))) one (by decide) (by simp only [maxLen]; omega) (by omega) (by simp; omega) (Wx.heap.size + 1) (by simp) ?_); intro g cap W6 hown hgrow hlie hg6; have oA : Only (fun k => v.ownBlock = some k) Wx W6 := ((Only.refl _ Wx).alloc _).trans (grown_only hgrow); have n3 : ¬ (v.ownBlock = some W.heap.size) := fun e => box_own h3 hrow e (by decide) rfl; have n5 : ¬ (v.ownBlock = some (W.heap.size + 1)) := fun e => box_own h5 hrow e (by decide) rfl; have y3 := boxO h3 oA n3; have y5 := boxO h5 oA n5; have f5 := y5.frozen; have k5 := y5.cell)
    have o6 : Only (fun k => k = W.heap.size + 1) W6 (W6.setCell ⟨W.heap.size + 1, 0, none⟩ (.slice (some ⟨g, 0, none⟩) (pre.length + 1) cap)) := (Only.refl (fun k => k = W.heap.size + 1) W6).setCell (p := ⟨W.heap.size + 1, 0, none⟩) (.inl rfl) _
    have hgb : (Value.slice (some ⟨g, 0, none⟩) (pre.length + 1) cap).ownBlock = some g := rfl
    have zA := oA.size
    have z6 := o6.size
    refine ⟨fun k => k = W.heap.size ∨ k = W.heap.size + 1 ∨ (Value.slice (some ⟨g, 0, none⟩) (pre.length + 1) cap).ownBlock = some k, ?_, ?_, ?_, _, rfl, boxO y3 o6 (by omega), y5.set _, ?_⟩
    · rintro k (h | h | h)
      · exact .inl (.inl h)
      · exact .inl (.inr (.inl h))
      · rw [hgb] at h
        injection h with h
        subst h
        rcases hlie with h | h
        · exact .inl (.inr (.inr h))
        · exact .inr (by omega)
    · exact (oA.mono fun k _ h => .inr (.inr h)).trans (o6.mono fun k _ h => .inr (.inl h))
    · rintro k (rfl | rfl | h)
      · exact Nat.lt_of_lt_of_le y3.lt z6
      · exact Nat.lt_of_lt_of_le y5.lt z6
      · exact Nat.lt_of_lt_of_le (own_lt hown h).2 z6
    · rw [HV.out, List.length_append]
      exact own_only hown o6 fun k hk e => by
        subst e
        exact box_own y5 hown hk (by decide) rfl
  case done =>
    rintro D C ys Wx hD hCD rfl ⟨v, rfl, h3, h5, hrow⟩ hg ho hw hK
    have hzx := ho.size
    have c5 := h5.cell
    have hR := HR.out v Wx hrow
    gi_wp2_with fail
    refine ⟨trivial, (callsIn_wide.2 hR).mono ?_⟩
    rintro e W5 ⟨rfl, hrow5, oB5⟩
    have y5 := boxO h5 oB5 fun e => box_own h5 hrow e (by decide) rfl
    have f5 := y5.frozen
    have k5 := y5.cell
    have hlow : ∀ k, v.ownBlock = some k → W.heap.size ≤ k := fun k hk => (own_lt hrow hk).1
    have nDv : ¬ v.ownBlock = some D := fun e => hCD (.inr (.inr e))
    have hDx : D < Wx.heap.size := (Array.getElem?_eq_some_iff.1 hK).1
    have hK5 : W5.heap[D]? = some (.deferred (some [])) := (oB5.block _ hDx nDv).trans hK
    gi_wp2
    refine ⟨by simp, .inl ⟨_, _, rfl, run_takeDeferred hK5, ?_⟩⟩
    have oW : Only (fun _ => False) W Wx := (Only.of_below B4 _).step ho fun k hk e => by
      rcases e with h | h | h
      · omega
      · omega
      · simp [Value.ownBlock] at h
    have oX : Only (fun _ => False) W (W5.putObj D (.deferred none)) := (oW.step oB5 fun k hk e => by have := hlow k e; omega).putObj _ (.inr (by omega))
    refine ⟨_, results_tmp rfl _ _ _, v, rfl, own_only hrow5 ((Only.refl (fun k => k = D) W5).putObj _ (.inl rfl)) fun k hk e => nDv (e ▸ hk), ?_⟩
    exact oX.below (Nat.le_refl _) fun _ _ h => h
  case stop =>
    rintro D c C pre Wx _ _ _ h
    exact h.elim
end Go.Proofs.Ytabgedmocdjkcaa
