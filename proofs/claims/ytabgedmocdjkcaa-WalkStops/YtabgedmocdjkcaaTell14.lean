/- Layer 14 (package walk): tellAll: the pairs of one node. -/
import Derived.Test.YtabgedmocdjkcaaSubs14
import Derived.Test.YtabgedmocdjkcaaWalkM14
namespace Go.Proofs.Ytabgedmocdjkcaa
open Go.RowKit Go.Shelf

abbrev encPr (x : Pr) : Array Value := #[strV x.1, .int .i64 x.2]
theorem lies_n {n₀ : Nat} {W : World} {v : Value} {L : List Int} (h : NumsIn W v L) (ho : Off (fun k => n₀ ≤ k) v) : LiesIn W n₀ v L := by
  rcases h.lies with h1 | ⟨b, off, cap, rfl, h1, h2, h3⟩
  · exact .inl h1
  · exact .inr ⟨b, off, cap, rfl, h1, Nat.lt_of_not_le (ho _ _ _ _ rfl), h3⟩
theorem nd_Sub14 {n₀ : Nat} {W : World} {o : Nd} (h : NodeIs (fun k => n₀ ≤ k) W o) : ∃ a n c, n = (ndL o).length ∧ ∀ W', Below n₀ W W' → LiesIn W' n₀ (.slice a n c) (ndL o) ∧
    Calls Try.prog 35 #[ndP o] W' fun e w' => e = .returned (.agg #[.slice a n c]) ∧ Below W'.heap.size W' w' := by
  cases o with
  | none => exact ⟨none, 0, 0, rfl, fun W' _ => ⟨.inl ⟨rfl, rfl⟩, nd_SubsV _ none none 0 0 0 0 0 W' fun W' _ => val_nil13 W'⟩⟩
  | some x =>
    obtain ⟨⟨a1, n1, c1, a2, n2, c2, hb, hs, _, ho1, _, hnb⟩, _⟩ := h
    have hn : x.1 < n₀ := Nat.lt_of_not_le hnb
    have hl := lies_n hs.cases ho1
    refine ⟨a1, n1, c1, ?_, fun W' hO => ⟨hl.below hO, nd_SubsV _ a1 a2 n1 c1 n2 c2 (x.2.2.sz : Int) W' fun W2 hW2 => val_at13 x.1 a1 a2 n1 c1 n2 c2 (x.2.2.sz : Int) W2 ?_⟩⟩
    · rcases hl with ⟨h1, h2⟩ | ⟨b, off, cap, h1, _⟩
      · injection h1 with _ e _
        rw [e]; show 0 = x.2.1.length
        rw [show x.2.1 = [] from h2]; rfl
      · injection h1
    · have h1 : Blk 83 W' x.1 _ := (hO.block x.1 hn).trans hb
      exact h1.below hW2 h1.lt

set_option maxRecDepth 100000 in
theorem set_Len14 (a : Option Addr) (n c : Nat) (W : World) : Calls Try.prog 36 #[.agg #[.slice a n c]] W fun e w' => e = .returned (.int .i64 n) ∧ Below W.heap.size W w' := by
  go_enter Try.func36, Try.ntmps36
  go_wp2
  go_ret
  exact ⟨rfl, new_below _ _⟩

theorem node_below {n₀ : Nat} {W W' : World} {o : Nd} (h : NodeIs (fun k => n₀ ≤ k) W o) (hb : Below n₀ W W') (hz : W.heap.size ≤ W'.heap.size) : NodeIs (fun k => n₀ ≤ k) W' o :=
  h.turn (T := fun k => n₀ ≤ k) ⟨hb.os, hb.tape, hb.output, hz, fun k _ hk => hb.block k (Nat.lt_of_not_le hk)⟩ (fun _ h => h) fun _ _ h => h
theorem twoT (W : World) (v : Value) : ∃ W2, (W.alloc (.cells #[v] 43)).alloc (.cells #[.bool false] 4) = W2 ∧ Below W.heap.size W W2 ∧ W2.heap.size = W.heap.size + 2 ∧ Boxed W2 W.heap.size 43 v ∧ Boxed W2 (W.heap.size + 1) 4 (.bool false) := by
  refine ⟨_, rfl, below_step (new_below _ _) (new_below _ _), by simp, (Boxed.new _ _ _).alloc _, ?_⟩
  have := Boxed.new (W.alloc (.cells #[v] 43)) 4 (.bool false)
  rw [World.size_alloc] at this; exact this
/-- How a teller of pairs ends: all are told, or a beginning of them. -/
def TellR (J Jx : (Nat → Prop) → List Pr → World → Prop) (C1 : Nat → Prop) (W : World) (pre0 l : List Pr) (e : Ending) (W' : World) : Prop :=
  ∃ b C', e = .returned (.bool b) ∧ Grow C1 C' W ∧ Only C1 W W' ∧ Wn C' W' ∧ ((b = true ∧ J C' (pre0 ++ l) W') ∨ (b = false ∧ ∃ z, z <+: l ∧ Jx C' (pre0 ++ z) W'))
attribute [local go_sem] Oper.semAt_some
set_option maxRecDepth 100000 in
set_option maxHeartbeats 4000000 in
theorem walk_tell {l n₀ : Nat} {J Jx : (Nat → Prop) → List Pr → World → Prop} {C1 : Nat → Prop} {q : List Key} {o : Nd} {a : Option Addr} {cap : Nat} {pre0 : List Pr} {W : World}
    (hq : q ≠ []) (hT : TextsIn W a q) (hc : q.length ≤ cap) (hql : q.length ≤ 1000000) (ho : NodeIs (fun k => n₀ ≤ k) W o) (hn0 : n₀ ≤ W.heap.size) (hCn : ∀ k, C1 k → n₀ ≤ k) (hw : Wn C1 W) (hJ : Stab J) (hJx : Stab Jx)
    (hL : (ndL o).length ≤ 100000) (hlen : ndL o ≠ [] → (joinZ q).length ≤ 1000000) (h0 : J C1 pre0 W)
    (hY : ∀ C2 pre x W2, pre ++ [x] <+: pre0 ++ ndPr q (ndL o) → J C2 pre W2 → Grow C1 C2 W → Only C1 W W2 → Wn C2 W2 → RoundO Try.prog l encPr J Jx C2 pre x W2) :
    Calls Try.prog 25 #[.slice a q.length cap, ndP o, .func (.yield l) #[] #[]] W (TellR J Jx C1 W pre0 (ndPr q (ndL o))) := by
  obtain ⟨sa, sn, sc, hsn, HS⟩ := nd_Sub14 ho
  have HSubs : Hid (∀ W', Below W.heap.size W W' → Calls Try.prog 35 #[ndP o] W' fun e w' => e = .returned (.agg #[.slice sa sn sc]) ∧ Below W'.heap.size W' w') := Lib.hid fun W' h => (HS W' (h.mono hn0)).2
  have HLies : Hid (∀ W', Below W.heap.size W W' → LiesIn W' n₀ (.slice sa sn sc) (ndL o)) := Lib.hid fun W' h => (HS W' (h.mono hn0)).1
  have HLen : Hid (∀ W', Calls Try.prog 36 #[.agg #[.slice sa sn sc]] W' fun e w' => e = .returned (.int .i64 sn) ∧ Below W'.heap.size W' w') := Lib.hid fun W' => set_Len14 sa sn sc W'
  have HJoin : Hid (ndL o ≠ [] → ∀ W', Below W.heap.size W W' → Calls Try.prog 37 #[.slice a q.length cap, .string ⟨#[47]⟩] W' fun e w' => e = .returned (strV (joinZ q)) ∧ Below W'.heap.size W' w') := Lib.hid fun hne W' h => str_Join a cap q W' hq (hT.below h) hc hql (hlen hne)
  have HY := Lib.hid hY
  have HJ := Lib.hid hJ
  have HJx := Lib.hid hJx
  have H0 := Lib.hid h0
  have HCn := Lib.hid hCn
  have HW := Lib.hid hw
  have Hn := Lib.hid hsn
  have Hb := Lib.hid hL
  clear HS hY hJ hJx h0 hCn hw hlen hT hc ho hsn hL hq hql
  generalize ndL o = L at *
  generalize q.length = ql at *
  generalize ndP o = po at *
  refine (callsIn_wide (n := 9)).1 ?_
  refine callsIn_of_wp_marks Try.func25 rfl trivial ?_ rfl
  simp only [Try.ntmps25, List.size_toArray, List.length_cons, List.length_nil, Nat.reduceAdd, Nat.reduceSub, Array.replicate_succ, Array.replicate_zero, List.push_toArray, List.append_toArray, List.nil_append, List.cons_append]
  gi_wp2_with fail
  obtain ⟨W2, hW2, B2, z2, b5, b6⟩ := twoT W (.func (.yield l) #[] #[])
  rw [hW2]
  clear hW2
  refine ⟨trivial, (callsIn_wide.2 (HSubs.out W2 B2)).mono ?_⟩
  rintro e W3 ⟨rfl, hB3⟩
  have B3 := below_step B2 hB3
  have b5 := boxed_below b5 hB3 b5.lt
  have b6 := boxed_below b6 hB3 b6.lt
  have z3 := hB3.size
  clear hB3 B2
  gi_wp2_with fail
  refine ⟨trivial, (callsIn_wide.2 (HLen.out W3)).mono ?_⟩
  rintro e W4 ⟨rfl, hB4⟩
  have B4 := below_step B3 hB4
  have b5 := boxed_below b5 hB4 b5.lt
  have b6 := boxed_below b6 hB4 b6.lt
  have z4 := hB4.size
  clear hB4 B3
  by_cases hL : L = []
  · obtain rfl : sn = 0 := by rw [Hn.out, hL]; rfl
    have c6 := b6.cell
    have f6 := b6.frozen
    gi_wp2
    have k6 : (W4.setCell ⟨W.heap.size + 1, 0, none⟩ (.bool true)).cell? ⟨W.heap.size + 1, 0, none⟩ = some (.bool true) := (b6.set (.bool true)).cell
    refine ⟨.bool true, by simp [results, Try.f25, go_sem, k6], ?_⟩
    have ho : Only C1 W (W4.setCell ⟨W.heap.size + 1, 0, none⟩ (.bool true)) := ((Only.of_below B4 C1).setCell (p := ⟨W.heap.size + 1, 0, none⟩) (.inr (by simp)) _)
    refine ⟨true, C1, rfl, Grow.refl _ _, ho, HW.out.le ho.size, .inl ⟨rfl, ?_⟩⟩
    subst hL
    rw [show ndPr q [] = [] from rfl, List.append_nil]
    exact HJ.out _ _ _ _ H0.out HW.out (((Only.of_below B4 _).setCell (p := ⟨W.heap.size + 1, 0, none⟩) (.inr (by simp)) _))
  · have hne : ¬ ((sn : Int) = 0) := by
      have := Hn.out
      have := List.length_pos_iff.2 hL
      omega
    gi_wp2_with fail
    refine ⟨trivial, (callsIn_wide.2 (HJoin.out hL W4 B4)).mono ?_⟩
    rintro e W5 ⟨rfl, hB5⟩
    have B5 := below_step B4 hB5
    have b5 := boxed_below b5 hB5 b5.lt
    have b6 := boxed_below b6 hB5 b6.lt
    have z5 := hB5.size
    clear hB5 B4
    obtain ⟨tx, htx⟩ : ∃ tx, tx = joinZ q := ⟨_, rfl⟩
    have hnd : ∀ pre : List Int, ndPr q pre = pre.map fun s => (tx, s) := fun pre => by rw [htx]; rfl
    have ND := Lib.hid hnd
    rw [← htx]
    clear htx hnd
    gi_wp2_with fail
    have b7 := Boxed.new W5 9 (strV tx)
    have b5 := b5.alloc (.cells #[strV tx] 9)
    have b6 := b6.alloc (.cells #[strV tx] 9)
    have B6 := below_step B5 (new_below W5 (.cells #[strV tx] 9))
    have z6 : (W5.alloc (.cells #[strV tx] 9)).heap.size = W5.heap.size + 1 := by simp
    obtain ⟨T, hT⟩ : ∃ T, T = W5.heap.size := ⟨_, rfl⟩
    rw [← hT] at b7 z6
    have hT2 : W.heap.size + 1 < T := by omega
    rw [show strV tx = Value.string ⟨tx.toArray⟩ from rfl] at *
    rw [← hT]
    generalize W5.alloc (.cells #[.string ⟨tx.toArray⟩] 9) = W6 at *
    clear B5 z5 z4 z3 hT
    refine ⟨trivial, (callsIn_wide.2 (HSubs.out W6 B6)).mono ?_⟩
    rintro e W7 ⟨rfl, hB7⟩
    have B7 := below_step B6 hB7
    have b5 := boxed_below b5 hB7 b5.lt
    have b6 := boxed_below b6 hB7 b6.lt
    have b7 := boxed_below b7 hB7 b7.lt
    have z7 := hB7.size
    clear hB7 B6
    gi_wp2_with fail
    refine ⟨trivial, (callsIn_wide.2 (set_AllN (.slice sa sn sc) L W7 ((HLies.out W7 B7).nums (Nat.le_trans hn0 B7.size)))).mono ?_⟩
    rintro e W8 ⟨X, rfl, hX, cX, hB8⟩
    have B8 := below_step B7 hB8
    have b5 := boxed_below b5 hB8 b5.lt
    have b6 := boxed_below b6 hB8 b6.lt
    have b7 := boxed_below b7 hB8 b7.lt
    have z8 := hB8.size
    have li := HLies.out W8 B8
    clear hB8 B7
    gi_wp2_with fail
    have oW : Only C1 W W8 := Only.of_below B8 C1
    have nC : ∀ k, W.heap.size ≤ k → ¬ C1 k := fun k hk => HW.out.not hk
    obtain ⟨own, hown⟩ : ∃ own : Nat → Prop, own = fun k => k = W.heap.size ∨ k = W.heap.size + 1 ∨ k = T := ⟨_, rfl⟩
    have ownW : ∀ k, own k → W.heap.size ≤ k := fun k hk => by rw [hown] at hk; rcases hk with h | h | h <;> omega
    have own8 : ∀ k, own k → k < W8.heap.size := fun k hk => by rw [hown] at hk; rcases hk with h | h | h <;> omega
    have own5 : own W.heap.size := by rw [hown]; exact .inl rfl
    have own6 : own (W.heap.size + 1) := by rw [hown]; exact .inr (.inl rfl)
    have own7 : own T := by rw [hown]; exact .inr (.inr rfl)
    refine wpIn_rangeO (by omega) (gf := 56) (lb := #[.pointer (some ⟨X, 0, none⟩)]) rfl (enters_of Try.func56 (by kernel_rfl) rfl)
      (set_seqO X n₀ (.slice sa sn sc) L (by have := Hb.out; omega) W8 hX (by omega) cX li) (Below.refl _ _) (fun _ => rfl)
      (fun C pre Wx => ∃ C2, C = (fun k => C2 k ∨ own k) ∧ (∀ k, own k → ¬ C2 k) ∧ Grow C1 C2 W ∧ J C2 (pre0 ++ ndPr q pre) Wx ∧ Boxed Wx W.heap.size 43 (.func (.yield l) #[] #[]) ∧ Boxed Wx (W.heap.size + 1) 4 (.bool false) ∧ Boxed Wx T 9 (.string ⟨tx.toArray⟩))
      (fun c C pre Wx => c = .ret ∧ ∃ C2, C = (fun k => C2 k ∨ own k) ∧ (∀ k, own k → ¬ C2 k) ∧ Grow C1 C2 W ∧ Jx C2 (pre0 ++ ndPr q pre) Wx ∧ Boxed Wx (W.heap.size + 1) 4 (.bool false))
      ?hI ?hIx (fun k => C1 k ∨ own k) ?hC ?hw ?h0
      (fun x => { tmps := #[.slice a ql cap, po, .func (.yield l) #[] #[], undef, undef, .pointer (some ⟨W.heap.size, 0, none⟩), .pointer (some ⟨W.heap.size + 1, 0, none⟩), .pointer (some ⟨T, 0, none⟩), .int .i64 x, po, .agg #[.slice sa sn sc], .int .i64 sn, .bool false, .slice a ql cap, .string ⟨tx.toArray⟩, po, .agg #[.slice sa sn sc], .func (.func 56) #[] #[.pointer (some ⟨X, 0, none⟩)], .int .i64 x, undef, undef, undef, undef, undef], defers := [] }) ?assign ?body ?done ?stop
    case hI =>
      rintro C s Wx Wy ⟨C2, rfl, h1, h2, h3, h4, h5, h6⟩ hw ho
      exact ⟨C2, rfl, h1, h2, HJ.out _ _ _ _ h3 (fun k hk => hw k (.inl hk)) (ho.mono fun k _ hk h => hk (.inl h)), boxO h4 ho fun h => h (.inr own5), boxO h5 ho fun h => h (.inr own6), boxO h6 ho fun h => h (.inr own7)⟩
    case hIx =>
      rintro c C s Wx Wy ⟨hc, C2, rfl, h1, h2, h3, h5⟩ hw ho
      exact ⟨hc, C2, rfl, h1, h2, HJx.out _ _ _ _ h3 (fun k hk => hw k (.inl hk)) (ho.mono fun k _ hk h => hk (.inl h)), boxO h5 ho fun h => h (.inr own6)⟩
    case hC =>
      rintro k (h | h)
      · exact .inl (HCn.out k h)
      · exact .inl (Nat.le_trans hn0 (ownW k h))
    case hw =>
      rintro k (h | h)
      · exact HW.out.le oW.size k h
      · exact own8 k h
    case h0 =>
      refine ⟨C1, rfl, fun k hk => nC k (ownW k hk), Grow.refl _ _, ?_, b5, b6, b7⟩
      rw [show ndPr q [] = [] from rfl, List.append_nil]
      exact HJ.out _ _ _ _ H0.out HW.out (Only.of_below B8 _)
    case assign =>
      intro l2 x Wx K hK
      gi_wp2
      exact hK
    case body =>
      rintro l2 C pre x Wx hlt ⟨C2, rfl, h1, h2, h3, h4, h5, h6⟩ hg ho hw
      have c4 := h4.cell
      have c5 := h5.cell
      have f5 := h5.frozen
      have c6 := h6.cell
      have hgo : Only C1 W Wx := oW.step ho fun k hk h => h.elim id fun h => by have := ownW k h; omega
      have hnd1 : ndPr q (pre ++ [x]) = ndPr q pre ++ [(tx, x)] := by rw [ND.out, ND.out, List.map_append]; rfl
      obtain ⟨fn, tm, asg, bd, hy, hR⟩ := HY.out C2 (pre0 ++ ndPr q pre) (tx, x) Wx (by
        obtain ⟨t, ht⟩ := hlt
        rw [List.append_assoc, ← hnd1]
        refine List.prefix_append_right_inj _ |>.2 ⟨ndPr q t, ?_⟩
        rw [ND.out, ND.out, ND.out, ← List.map_append, ht]) h3 h2 hgo (fun k hk => hw k (.inl hk)) 0
      dsimp only [encPr] at hy
      rw [show strV (tx, x).1 = Value.string ⟨tx.toArray⟩ from rfl] at hy
      gi_wp2_with fail
      refine RoundIn.mono (F := Fence.wide.inRound l2) (round_any (F := Fence.wide.inRound l2) rfl hR) ?_
      rintro e Wy ⟨C3, g3, o3, w3, ⟨rfl, j3⟩ | ⟨rfl, j3⟩⟩
      all_goals
        have n3 : ∀ k, own k → ¬ C3 k := fun k hk => g3.not (hw k (.inr hk)) (h1 k hk)
        have y5 := boxO h5 o3 (h1 _ own6)
        have f6 := y5.frozen
        have k6 := y5.cell
        have z3 := o3.size
        have gg : Grow C1 C3 W := h2.trans g3 hgo.size
        have go' : Grow (fun k => C2 k ∨ own k) (fun k => C3 k ∨ own k) Wx := fun k hk => hk.elim (fun h => (g3 k h).imp .inl id) fun h => .inl (.inr h)
        have oo : Only (fun k => C2 k ∨ own k) Wx Wy := o3.mono fun k _ h => .inl h
        have ww : Wn (fun k => C3 k ∨ own k) Wy := fun k hk => hk.elim (w3 k) fun h => Nat.lt_of_lt_of_le (hw k (.inr h)) z3
        rw [List.append_assoc, ← hnd1] at j3
      · gi_wp2
        exact ⟨_, go', oo, ww, C3, rfl, n3, gg, j3, boxO h4 o3 (h1 _ own5), y5, boxO h6 o3 (h1 _ own7)⟩
      · gi_wp2
        refine ⟨_, go', oo.setCell (p := ⟨W.heap.size + 1, 0, none⟩) (.inl (.inr own6)) _, fun k hk => by have := ww k hk; simpa [World.setCell] using this, rfl, C3, rfl, n3, gg, ?_, y5.set _⟩
        exact HJx.out _ _ _ _ j3 w3 ((Only.refl _ Wy).setCell (p := ⟨W.heap.size + 1, 0, none⟩) (.inl (n3 _ own6)) _)
    case done =>
      rintro D C ys Wx hD hCD rfl ⟨C2, rfl, h1, h2, h3, h4, h5, h6⟩ hg ho hw hK
      have f5 := h5.frozen
      have c5 := h5.cell
      have hgo : Only C1 W Wx := oW.step ho fun k hk h => h.elim id fun h => by have := ownW k h; omega
      gi_wp2
      have hK' : ∀ u, (Wx.setCell ⟨W.heap.size + 1, 0, none⟩ u).heap[D]? = some (.deferred (some [])) := fun u => (KeepsOthers.setCell Wx ⟨W.heap.size + 1, 0, none⟩ u).same D _ hK rfl
      have y5 := h5.set (.bool true)
      have y6 := boxO y5 (Only.putObj (S := fun k => k = D) (Only.refl _ _) (.deferred none) (.inl rfl)) (fun e => hCD (.inr (e ▸ own6)))
      have k6 := y6.cell
      refine ⟨by simp, .inl ⟨_, _, rfl, run_takeDeferred (hK' _), ?_⟩⟩
      refine ⟨.bool true, by simp [results, Try.f25, go_sem, k6], ?_⟩
      have oX : Only (fun k => ¬ C2 k) Wx ((Wx.setCell ⟨W.heap.size + 1, 0, none⟩ (.bool true)).putObj D (.deferred none)) := ((Only.refl _ Wx).setCell (p := ⟨W.heap.size + 1, 0, none⟩) (.inl (h1 _ own6)) _).putObj _ (.inl fun h => hCD (.inl h))
      have zX := oX.size
      refine ⟨true, C2, rfl, h2, ((hgo.setCell (p := ⟨W.heap.size + 1, 0, none⟩) (.inr (by simp)) _).putObj _ (.inr (by omega))), fun k hk => Nat.lt_of_lt_of_le (hw k (.inl hk)) zX, .inl ⟨rfl, HJ.out _ _ _ _ h3 (fun k hk => hw k (.inl hk)) oX⟩⟩
    case stop =>
      rintro D c C pre Wx hD hCD hp ⟨rfl, C2, rfl, h1, h2, h3, h5⟩ hg ho hw hK
      have f5 := h5.frozen
      have c5 := h5.cell
      have hgo : Only C1 W Wx := oW.step ho fun k hk h => h.elim id fun h => by have := ownW k h; omega
      gi_wp2
      have y6 := boxO h5 (Only.putObj (S := fun k => k = D) (Only.refl _ _) (.deferred none) (.inl rfl)) (fun e => hCD (.inr (e ▸ own6)))
      have k6 := y6.cell
      refine ⟨by simp, .inl ⟨_, _, rfl, run_takeDeferred hK, ?_⟩⟩
      refine ⟨.bool false, by simp [results, Try.f25, go_sem, k6], ?_⟩
      have oX : Only (fun k => ¬ C2 k) Wx (Wx.putObj D (.deferred none)) := (Only.refl _ Wx).putObj _ (.inl fun h => hCD (.inl h))
      have zX := oX.size
      refine ⟨false, C2, rfl, h2, hgo.putObj _ (.inr (by omega)), fun k hk => Nat.lt_of_lt_of_le (hw k (.inl hk)) zX, .inr ⟨rfl, _, ?_, HJx.out _ _ _ _ h3 (fun k hk => hw k (.inl hk)) oX⟩⟩
      rw [ND.out, ND.out]
      obtain ⟨t, ht⟩ := hp
      exact ⟨t.map fun s => (tx, s), by rw [← List.map_append, ht]⟩
end Go.Proofs.Ytabgedmocdjkcaa
