/- Layer 14 (package walk): what root becomes if the node to which the levels lead has that subscriber too. Made by tools/gen_with14.py. -/
import Derived.Test.YtabgedmocdjkcaaJoin34
import Derived.Test.YtabgedmocdjkcaaJoin35
import Derived.Test.YtabgedmocdjkcaaPairsM14
namespace Go.Proofs.Ytabgedmocdjkcaa
open Go.RowKit Go.Shelf

/-- The nodes on the way, as far as i levels. -/
def wyZ (o : Nd) (ls : List Key) (i : Nat) : List Value := (List.range (i + 1)).map fun j => ndP (atZ (ls.take j) o)
theorem wy_len (o : Nd) (ls : List Key) (i : Nat) : (wyZ o ls i).length = i + 1 := by simp [wyZ]
theorem wy_snoc (o : Nd) (ls : List Key) (i : Nat) : wyZ o ls (i + 1) = wyZ o ls i ++ [ndP (atZ (ls.take (i + 1)) o)] := by
  unfold wyZ
  rw [List.range_succ, List.map_append]; rfl
theorem wy_at {o : Nd} {ls : List Key} {i j : Nat} (h : j ≤ i) : (wyZ o ls i)[j]? = some (ndP (atZ (ls.take j) o)) := by
  simp only [wyZ, List.getElem?_map, List.getElem?_range (show j < i + 1 by omega), Option.map_some]
theorem at_snoc {ls : List Key} {o : Nd} {i : Nat} {k : Key} (h : ls[i]? = some k) : atZ (ls.take (i + 1)) o = (ndF (atZ (ls.take i) o)).get k := by
  obtain ⟨h1, h2⟩ := List.getElem?_eq_some_iff.1 h
  rw [List.take_succ_eq_append_getElem h1, h2, at_app]; rfl
theorem at_le : ∀ (p : List Key) (o : Nd), ndN (atZ p o) ≤ ndN o
  | [], _ => Nat.le_refl _
  | k :: p, o => Nat.le_trans (at_le p _) (kid_le k o)
theorem at_ok : ∀ (p : List Key) {o : Nd}, okN o → okN (atZ p o)
  | [], _, h => h
  | _ :: p, _, h => at_ok p (okN_get h.2)
theorem node_at {S : Nat → Prop} {w : World} : ∀ (p : List Key) {o : Nd}, NodeIs S w o → NodeIs S w (atZ p o)
  | [], _, h => h
  | k :: p, _, h => node_at p (h.kid k)
theorem sub_at (p q : List Key) (o : Nd) : subZ (atZ p o) q = subZ o (p ++ q) := by unfold subZ; rw [at_app]
theorem nd_form (o : Nd) : ∃ q, ndP o = .pointer q := by cases o <;> exact ⟨_, rfl⟩

/-- A node with a kid that isn't none. -/
abbrev kidZ (o : Nd) (k : Key) (b bq : Nat) (Lq : List Int) (Fq : Fo) : Nd := some (b, ndL o, if bareB Lq Fq then (ndF o).drop k else (ndF o).put k bq Lq Fq)
set_option maxRecDepth 100000 in
theorem kid_put {S : Nat → Prop} {w : World} {o : Nd} {k : Key} {bq : Nat} {Lq : List Int} {Fq : Fo} (hS : ∀ i, w.heap.size ≤ i → ¬ S i) (ho : NodeIs S w o) (hq : NodeIs S w (some (bq, Lq, Fq))) (hok : (ndF o).ok) (hN : (ndF o).sz + Fq.sz ≤ 90000) :
    Calls Try.prog 42 #[ndP o, keyV k, .pointer (some ⟨bq, 0, none⟩)] w fun e w' => ∃ b, e = .returned (ndP (kidZ o k b bq Lq Fq)) ∧ NodeIs S w' (kidZ o k b bq Lq Fq) ∧ Below w.heap.size w w' := by
  obtain ⟨G, hG⟩ : ∃ G, G = if bareB Lq Fq = true then (ndF o).drop k else (ndF o).put k bq Lq Fq := ⟨_, rfl⟩
  have hF := ho.kids
  have h1 : FoIs S w G := by
    rw [hG]
    split
    · exact FoIs.drop k hF
    · exact FoIs.put hq.1 hq.2 hF
  have hz : G.sz ≤ 100000 := by
    have a := sz_drop k hok
    have b := sz_put (k := k) (b := bq) (L := Lq) (G := Fq) hok
    rw [hG]
    split <;> omega
  have hE := fo_sz (ndF o)
  have hE' : (Lq = [] ∧ Fq.ents = [] ∧ G.ents = dropE k (ndF o).ents) ∨ (¬ (Lq = [] ∧ Fq.ents = []) ∧ ∃ x, ndP (some (bq, Lq, Fq)) = ptrV x ∧ G.ents = putE k x (ndF o).ents) := by
    by_cases hb : bareB Lq Fq = true
    · obtain ⟨rfl, rfl⟩ := (bareB_iff _ _).1 hb
      exact .inl ⟨rfl, rfl, by rw [hG, if_pos hb, fo_drop]⟩
    · exact .inr ⟨fun e => hb ((bareB_iff _ _).2 ⟨e.1, (fo_nil _).1 e.2⟩), (bq : Int), by simp [ndP, ptrV], by rw [hG, if_neg hb, fo_put]⟩
  refine (nd_WithKid0 (ndP o) (ndP (some (bq, Lq, Fq))) (ndL o) Lq (ndF o).ents Fq.ents (ndN o) _ k w hS ho.pis (NodeIs.pis (o := some (bq, Lq, Fq)) hq) (by omega) G.ents hE' (zfW w) fun p hp => ⟨(h1.each p hp).1, Nat.le_trans (h1.each p hp).2 hz⟩).mono ?_
  rintro e w' ⟨b, rfl, hn, hB⟩
  rw [h1.sum] at hn
  refine ⟨b, rfl, ?_, hB⟩
  show NodeIs S w' (some (b, ndL o, if bareB Lq Fq = true then (ndF o).drop k else (ndF o).put k bq Lq Fq))
  rw [← hG]
  exact ⟨hn, h1.below hB⟩
set_option maxRecDepth 100000 in
theorem sub_put {S : Nat → Prop} {w : World} {o : Nd} (x : Int) (hS : ∀ i, w.heap.size ≤ i → ¬ S i) (ho : NodeIs S w o) (hL : (ndL o).length ≤ 1000000) :
    Calls Try.prog 40 #[ndP o, .int .i64 x] w fun e w' => ∃ b, e = .returned (.pointer (some ⟨b, 0, none⟩)) ∧ NodeIs S w' (some (b, withZ x (ndL o), ndF o)) ∧ Below w.heap.size w w' := by
  refine (nd_WithSub _ _ _ _ x _ hS ho.pis hL).mono ?_
  rintro e w' ⟨b, rfl, hn, hB⟩
  have e : ndN o - 1 = (ndF o).sz := by cases o <;> simp [ndN, ndF, Fo.sz]
  rw [e] at hn
  exact ⟨b, rfl, ⟨hn, ho.kids.below hB⟩, hB⟩
theorem chg_some0 {h : List Int → List Int} : ∀ {p : List Key} {o q : Nd}, Chg h p o q → ∃ b L F, q = some (b, L, F)
  | [], _, _, ⟨b, e⟩ => ⟨b, _, _, e⟩
  | _ :: _, _, _, ⟨b, _, _, _, _, e⟩ => ⟨b, _, _, e⟩
theorem own_cell {w : World} {base n : Nat} {e : TypeId} {v : Value} {xs : List Value} (h : w.ownsRow base e 1 v (n + 1) xs) :
    ∃ g cap, v = .slice (some ⟨g, 0, none⟩) (n + 1) cap ∧ g < w.heap.size ∧ n + 1 ≤ cap ∧ ∀ (j : Nat) (u : Value), xs[j]? = some u → w.cell? ⟨g, j, none⟩ = some u := by
  obtain ⟨h0, ⟨h1, h2⟩ | ⟨g, cap, cur, h1, hb, h2, h3, h4, h5, h6⟩⟩ := h
  · omega
  · refine ⟨g, cap, h1, (Array.getElem?_eq_some_iff.1 h2).1, h3, fun j u hu => ?_⟩
    have hb : Blk e w g cur.toList := by show w.heap[g]? = _; simpa using h2
    refine hb.at ?_
    rw [← h6] at hu
    rw [List.getElem?_take] at hu
    split at hu
    · exact hu
    · cases hu
theorem bk_pre {ls : List Key} {pre : List (Nat × Key)} {y : Nat × Key} (h : pre ++ [y] <+: bkZ ls) : ∃ j k, y = (j, k) ∧ ls[j]? = some k ∧ ls.length - pre.length = j + 1 ∧ ls.length - (pre ++ [y]).length = j := by
  obtain ⟨t, ht⟩ := h
  have hl : pre.length < ls.length := by
    rw [← bk_len ls, ← ht]; simp
  have hy : (bkZ ls)[pre.length]? = some y := by rw [← ht]; simp
  obtain ⟨k, hk⟩ : ∃ k, ls[ls.length - (pre.length + 1)]? = some k := ⟨_, List.getElem?_eq_getElem (by omega)⟩
  have h2 := bk_at hk
  rw [show ls.length - (ls.length - (pre.length + 1) + 1) = pre.length by omega, hy] at h2
  injection h2 with h2
  exact ⟨_, k, h2, hk, by omega, by rw [List.length_append, List.length_singleton]⟩

/-- Where the first loop stands: the box, the row. -/
structure WyS (W : World) (o : Nd) (ls : List Key) (i : Nat) (v : Value) (Wx : World) : Prop where
  b7 : Boxed Wx (W.heap.size + 1) 67 v
  row : Wx.ownsRow W.heap.size 27 1 v (i + 1) (wyZ o ls i)
  bl : Below W.heap.size W Wx
theorem WyS.below {W : World} {o : Nd} {ls : List Key} {i : Nat} {v : Value} {Wx Wy : World} (h : WyS W o ls i v Wx) (hb : Below Wx.heap.size Wx Wy) : WyS W o ls i v Wy :=
  ⟨boxed_below h.b7 hb h.b7.lt, own_only h.row (Only.of_below hb (fun _ => False)) fun _ _ e => e, below_step h.bl hb⟩
/-- Behind the append, ahead of the store. -/
structure WyS' (W : World) (o : Nd) (ls : List Key) (i : Nat) (v v' : Value) (Wx : World) : Prop where
  b7 : Boxed Wx (W.heap.size + 1) 67 v
  row : Wx.ownsRow W.heap.size 27 1 v' (i + 1 + 1) (wyZ o ls (i + 1))
  bl : Below W.heap.size W Wx
theorem WyS'.put {W : World} {o : Nd} {ls : List Key} {i : Nat} {v v' : Value} {Wx : World} (h : WyS' W o ls i v v' Wx) : WyS W o ls (i + 1) v' (Wx.setCell ⟨W.heap.size + 1, 0, none⟩ v') :=
  ⟨h.b7.set v', own_only h.row ((Only.refl (fun k => k = W.heap.size + 1) Wx).setCell (p := ⟨W.heap.size + 1, 0, none⟩) (.inl rfl) _) fun k hk e => by subst e; exact box_own h.b7 h.row hk (by decide) rfl,
    h.bl.setCell (p := ⟨W.heap.size + 1, 0, none⟩) (by show W.heap.size ≤ W.heap.size + 1; omega) _⟩
theorem wy_new (W : World) (o : Nd) (ls : List Key) : ∃ W2, (W.alloc (.cells #[ndP o] 27)).alloc (.cells #[.slice (some ⟨W.heap.size, 0, none⟩) 1 1] 67) = W2 ∧ WyS W o ls 0 (.slice (some ⟨W.heap.size, 0, none⟩) 1 1) W2 := by
  have hb : Blk 27 (W.alloc (.cells #[ndP o] 27)) W.heap.size [ndP o] := Blk.new
  have b2 := Boxed.new (W.alloc (.cells #[ndP o] 27)) 67 (.slice (some ⟨W.heap.size, 0, none⟩) 1 1)
  rw [World.size_alloc] at b2
  refine ⟨_, rfl, b2, ⟨by rw [wy_len], .inr ⟨W.heap.size, 1, #[ndP o], rfl, Nat.le_refl _, hb.alloc _, by omega, by simp [maxLen], rfl, rfl⟩⟩, below_step (new_below _ _) (new_below _ _)⟩
/-- What the second loop owns: all blocks that lie but the texts and their box. -/
def BkC (W9 : World) (B10 : Nat) (a : Option Addr) (k : Nat) : Prop := k < W9.heap.size ∧ k ≠ B10 + 1 ∧ ∀ b off, a = some ⟨b, off, none⟩ → k ≠ b
/-- Where the second loop stands. -/
structure BkS (S : Nat → Prop) (W9 : World) (B10 : Nat) (a : Option Addr) (o : Nd) (ls : List Key) (x : Int) (C1 : Nat → Prop) (pre : List (Nat × Key)) (Wx : World) : Prop where
  old : ∀ k, BkC W9 B10 a k → C1 k
  same : ∀ k, BkC W9 B10 a k → k ≠ B10 → Wx.heap[k]? = W9.heap[k]?
  ex : ∃ q, Boxed Wx B10 27 (ndP q) ∧ Chg (withZ x) (ls.drop (ls.length - pre.length)) (atZ (ls.take (ls.length - pre.length)) o) q ∧ NodeIs (fun k => ¬ C1 k ∨ k = B10 ∨ S k) Wx q
theorem BkS.stab {S : Nat → Prop} {W9 : World} {B10 : Nat} {a : Option Addr} {o : Nd} {ls : List Key} {x : Int} (hB : BkC W9 B10 a B10) : Stab (BkS S W9 B10 a o ls x) := by
  rintro C s Wx Wy ⟨old, same, q, hb, hc, hn⟩ hw ho
  exact ⟨old, fun k hk hne => (ho.block k (hw k (old k hk)) fun h => h (old k hk)).trans (same k hk hne), q, boxO hb ho fun h => h (old _ hB), hc, hn.turn ho (fun k h => .inl h) fun k _ h => h⟩
theorem infoPtr : (Try.prog.info? 27).map (fun i => (i.zero, i.size, i.bytes)) = some (some (.pointer none), 1, 8) := by kernel_rfl
attribute [local go_sem] Oper.semAt_some
set_option maxRecDepth 100000 in
set_option maxHeartbeats 4000000 in
theorem walk_with {S : Nat → Prop} {n₁ : Nat} {o : Nd} {a : Option Addr} {cap : Nat} {ls : List Key} {x : Int} {W : World} (ho : NodeIs (fun k => n₁ ≤ k ∨ S k) W o) (hn1 : n₁ ≤ W.heap.size) (hS : ∀ k, S k → k < W.heap.size) (hok : okN o) (hN : ndN o + ls.length ≤ 40000) (hsub : ∀ p, (subZ o p).length ≤ 1000)
    (hT : TextsIn W a ls) (hat : ∀ b off, a = some ⟨b, off, none⟩ → n₁ ≤ b ∧ b < W.heap.size) :
    Calls Try.prog 26 #[ndP o, .slice a ls.length cap, .int .i64 x] W fun e w' => ∃ o', e = .returned (ndP o') ∧ Chg (withZ x) ls o o' ∧ NodeIs S w' o' ∧ Below W.heap.size W w' := by
  obtain ⟨i0, hi0, hz0, hz1, hz2⟩ := info_parts infoPtr
  obtain ⟨W2, hW2, st0⟩ := wy_new W o ls
  have HST0 := Lib.hid st0
  have HND : Hid (∀ p wr, Below W.heap.size W wr → NodeIs (fun k => n₁ ≤ k ∨ S k) wr (atZ p o)) := Lib.hid fun p wr hb => node_at p (ho.below hb)
  have HSZ : Hid (∀ p, (ndF (atZ p o)).sz ≤ 40000) := Lib.hid fun p => by
    have h1 := at_le p o
    have h2 := ndN_F (atZ p o)
    omega
  have HKID : Hid (∀ i k wr, ls[i]? = some k → Below W.heap.size W wr → Calls Try.prog 39 #[ndP (atZ (ls.take i) o), keyV k] wr fun e w' => e = .returned (ndP (atZ (ls.take (i + 1)) o)) ∧ Below wr.heap.size wr w') := Lib.hid fun i k wr hk hb => by
    rw [at_snoc hk, ← kidV_get]
    have h1 := fo_sz (ndF (atZ (ls.take i) o))
    have h2 := HSZ.out (ls.take i)
    exact nd_Kid _ _ _ _ k _ (HND.out (ls.take i) wr hb).pis (by omega)
  have HTX : Hid (∀ wr, Below W.heap.size W wr → ∀ j k, ls[j]? = some k → ∃ b off, a = some ⟨b, off, none⟩ ∧ wr.cell? ⟨b, off + j, none⟩ = some (keyV k)) := Lib.hid fun wr hb j k hk => by
    obtain ⟨b, off, h1, h2, h3⟩ := hT j k hk
    exact ⟨b, off, h1, (hb.cell (p := ⟨b, off + j, none⟩) h2).trans h3⟩
  have HT := Lib.hid hT
  have HAT := Lib.hid hat
  have HOK := Lib.hid hok
  have HSB := Lib.hid hsub
  have HN := Lib.hid hN
  have hl : ls.length ≤ 40000 := by omega
  obtain ⟨q, hq⟩ := nd_form o
  rw [hq] at hW2 ⊢
  clear ho hT hat hok hsub hN st0 hq
  refine (callsIn_wide (n := 9)).1 ?_
  refine callsIn_of_wp_marks Try.func26 rfl trivial ?_ rfl
  simp only [Try.ntmps26, List.size_toArray, List.length_cons, List.length_nil, Nat.reduceAdd, Nat.reduceSub, Array.replicate_succ, Array.replicate_zero, List.push_toArray, List.append_toArray, List.nil_append, List.cons_append]
  gi_wp2_with fail
  try rw [hW2]
  clear hW2
  gi_loopw [17] (fun i wr => ∃ (k : Nat) (v : Value), k ≤ ls.length ∧ i = .int .i64 (k : Int) ∧ Hid (WyS W o ls k v wr)) (fun i _ => ls.length - (intOf i).toNat)
  case atStart => exact ⟨0, _, Nat.zero_le _, rfl, HST0⟩
  case round =>
    obtain ⟨k, v, hk, rfl, ST⟩ := hrel
    obtain ⟨g, cap2, rfl, hglt, hc2, hcell⟩ := own_cell ST.out.row
    clear HST0
    by_cases hkl : k < ls.length
    · obtain ⟨kk, hkk⟩ : ∃ kk, ls[k]? = some kk := ⟨_, List.getElem?_eq_getElem hkl⟩
      obtain ⟨b, off, ha, hct⟩ := HTX.out wr ST.out.bl k kk hkk
      subst ha
      obtain ⟨qk, hqk⟩ := nd_form (atZ (ls.take k) o)
      obtain ⟨q2, hq2⟩ := nd_form (atZ (ls.take (k + 1)) o)
      have hkid := fun wr hb => HKID.out k kk wr hkk hb
      rw [hqk, hq2] at hkid
      have HKD := Lib.hid hkid
      have hrw : wyZ o ls (k + 1) = wyZ o ls k ++ [.pointer q2] := by rw [wy_snoc, hq2]
      have HRW := Lib.hid hrw
      have HSK : Hid (∀ w', WyS W o ls k (.slice (some ⟨g, 0, none⟩) (k + 1) cap2) w' → w'.cell? ⟨W.heap.size + 1, 0, none⟩ = some (.slice (some ⟨g, 0, none⟩) (k + 1) cap2) ∧ w'.cell? ⟨g, k, none⟩ = some (.pointer qk)) := Lib.hid fun w' h => by
        obtain ⟨g', c', e1, _, _, h2⟩ := own_cell h.row
        injection e1 with e1 e2 e3
        injection e1 with e1
        injection e1 with e1 _ _
        subst e1
        exact ⟨h.b7.cell, h2 k _ (by rw [wy_at (Nat.le_refl k), hqk])⟩
      have hk1 : (k : Int) < (k : Int) + 1 := by omega
      have hst := ST.out.below (Wy := wr.drew) (Below.refl _ _).drew
      clear hkk hkid hqk hq2 hrw hcell hglt
      gi_wp2_with fail
      refine wpIn_region_till_wide (k := 8) (S := (fun w' => w'.cell? ⟨W.heap.size + 1, 0, none⟩ = some (.slice (some ⟨g, 0, none⟩) (k + 1) cap2) ∧ w'.cell? ⟨g, k, none⟩ = some (.pointer qk))) (by kernel_rfl) (by kernel_rfl) ?_ (fun hHeld => ?_)
      · exact (HSK.out _ hst)
      generalize wr.drew = Wd at hst hHeld ⊢
      refine wpAnyL_take (i := 0) (oi := ⟨some 22, _, _, _, _, _⟩) (v := ?_) rfl (by kernel_rfl) (by kernel_rfl) (by kernel_rfl) (by kernel_rfl) (by decide) (by kernel_rfl) (by kernel_rfl) (fun _ _ _ h => h) (Or.inl ⟨by rfl, ?_⟩) (by assumption) ?_
      rotate_left
      · (intro w hSw; (try dsimp only at hSw); go_simp; try with_reducible rfl)
      try simp only [Act.put, List.setIfInBounds_toArray, List.set_cons_zero, List.set_cons_succ]
      refine wpAnyL_take (i := 1) (oi := ⟨some 23, _, _, _, _, _⟩) (v := ?_) rfl (by kernel_rfl) (by kernel_rfl) (by kernel_rfl) (by kernel_rfl) (by decide) (by kernel_rfl) (by kernel_rfl) (fun _ _ _ h => h) (Or.inl ⟨by rfl, ?_⟩) (by assumption) ?_
      rotate_left
      · (intro w hSw; (try dsimp only at hSw); go_simp; try with_reducible rfl)
      try simp only [Act.put, List.setIfInBounds_toArray, List.set_cons_zero, List.set_cons_succ]
      refine wpAnyL_take (i := 2) (oi := ⟨some 24, _, _, _, _, _⟩) (v := ?_) rfl (by kernel_rfl) (by kernel_rfl) (by kernel_rfl) (by kernel_rfl) (by decide) (by kernel_rfl) (by kernel_rfl) (fun _ _ _ h => h) (Or.inl ⟨by rfl, ?_⟩) (by assumption) ?_
      rotate_left
      · (intro w hSw; (try dsimp only at hSw); go_simp; try with_reducible rfl)
      try simp only [Act.put, List.setIfInBounds_toArray, List.set_cons_zero, List.set_cons_succ]
      refine wpAnyL_take (i := 3) (oi := ⟨some 25, _, _, _, _, _⟩) (v := ?_) rfl (by kernel_rfl) (by kernel_rfl) (by kernel_rfl) (by kernel_rfl) (by decide) (by kernel_rfl) (by kernel_rfl) (fun _ _ _ h => h) (Or.inl ⟨by rfl, ?_⟩) (by assumption) ?_
      rotate_left
      · (intro w hSw; (try dsimp only at hSw); go_simp; try with_reducible rfl)
      try simp only [Act.put, List.setIfInBounds_toArray, List.set_cons_zero, List.set_cons_succ]
      refine wpAnyL_take (i := 4) (oi := ⟨some 26, _, _, _, _, _⟩) (v := ?_) rfl (by kernel_rfl) (by kernel_rfl) (by kernel_rfl) (by kernel_rfl) (by decide) (by kernel_rfl) (by kernel_rfl) (fun _ _ _ h => h) (Or.inl ⟨by rfl, ?_⟩) (by assumption) ?_
      rotate_left
      · (intro w hSw; (try dsimp only at hSw); go_simp; try with_reducible rfl)
      try simp only [Act.put, List.setIfInBounds_toArray, List.set_cons_zero, List.set_cons_succ]
      refine wpAnyL_take (i := 5) (oi := ⟨some 27, _, _, _, _, _⟩) (v := ?_) rfl (by kernel_rfl) (by kernel_rfl) (by kernel_rfl) (by kernel_rfl) (by decide) (by kernel_rfl) (by kernel_rfl) (fun _ _ _ h => h) (Or.inl ⟨by rfl, ?_⟩) (by assumption) ?_
      rotate_left
      · (intro w hSw; (try dsimp only at hSw); go_simp; try with_reducible rfl)
      try simp only [Act.put, List.setIfInBounds_toArray, List.set_cons_zero, List.set_cons_succ]
      refine wpAnyL_ready (rs := [6]) (by kernel_rfl) (by simp) ?_
      refine AllReadyL.cons (o := ⟨some 28, _, _, _, _, _⟩) rfl (fun K hK => ?_) AllReadyL.nil
      go_simp
      refine (HKD.out _ hst.bl).mono ?_
      rintro e W6 ⟨rfl, hB6⟩
      replace hst := hst.below hB6
      clear hB6
      go_wp2_with fail
      refine hK.out _ _ ?_ (fun hHeldX => ?_)
      · exact fun _ => (HSK.out _ hst)
      clear hK K hHeld
      rename _ => hHeld
      try simp only [Act.put, List.setIfInBounds_toArray, List.set_cons_zero, List.set_cons_succ]
      refine wpAnyL_ready (rs := [7]) (by kernel_rfl) (by simp) ?_
      refine AllReadyL.cons (o := ⟨some 29, _, _, _, _, _⟩) rfl (fun K hK => ?_) AllReadyL.nil
      go_simp
      have ha : Blk 27 (W6.alloc (.cells #[.pointer q2] 27)) W6.heap.size [.pointer q2] := Blk.new
      replace hst := hst.below (new_below _ (.cells #[.pointer q2] 27))
      generalize World.alloc _ _ = Wn at *
      refine hK.out _ _ ?_ (fun hHeldX => ?_)
      · exact fun _ => (HSK.out _ hst)
      clear hK K hHeld
      rename _ => hHeld
      try simp only [Act.put, List.setIfInBounds_toArray, List.set_cons_zero, List.set_cons_succ]
      refine wpAnyL_ready (rs := [8]) (by kernel_rfl) (by simp) ?_
      refine AllReadyL.cons (o := ⟨some 30, _, _, _, _, _⟩) rfl (fun K hK => ?_) AllReadyL.nil
      refine step_append_lies _ rfl (.tmp 22) (.tmp 29) 67 rfl W.heap.size 27 i0 (.pointer none) 1 8 Try.underlying67 hi0 hz0 hz1 hz2 rfl (by decide) _ _ _ rfl hst.row ⟨_, 0, none⟩ 1 1 [.pointer q2] rfl rfl (World.news_of_block ha) (by simp [Value.oneCell']) (by decide) (by simp only [maxLen]; omega) (by omega) (by have := hst.b7.lt; omega) _ rfl ?_
      intro g8 cap8 W8 hown hgrow hlie hlt8
      have ho8 := grown_only hgrow
      have hb8 := boxO hst.b7 ho8 fun e => box_own hst.b7 hst.row e (by decide) rfl
      have hst8 : WyS' W o ls k (.slice (some ⟨g, 0, none⟩) (k + 1) cap2) (.slice (some ⟨g8, 0, none⟩) (k + 1 + 1) cap8) W8 := ⟨hb8, by rw [HRW.out]; exact hown, hst.bl.trans (ho8.below hst.bl.size fun j hj e => by have := (own_lt hst.row e).1; omega)⟩
      clear hst
      have hst := hst8
      clear hown hgrow hlie hst8 ho8 hb8 ha
      refine hK.out _ _ ?_ (fun hHeldX => ?_)
      · exact fun h => absurd h (by decide)
      clear hK K hHeld
      rename _ => hHeld
      try simp only [Act.put, List.setIfInBounds_toArray, List.set_cons_zero, List.set_cons_succ]
      refine wpAnyL_ready (rs := [9]) (by kernel_rfl) (by simp) ?_
      refine AllReadyL.cons (o := ⟨none, _, _, _, _, _⟩) rfl (fun K hK => ?_) AllReadyL.nil
      have c9 := hst.b7.cell
      have f9 := hst.b7.frozen
      go_simp
      clear c9 f9
      replace hst := hst.put
      generalize World.setCell _ _ _ = Wn at *
      refine hK.out _ _ ?_ (fun hHeldX => ?_)
      · exact fun h => absurd h (by decide)
      clear hK K hHeld
      rename _ => hHeld
      try simp only [Act.put]
      refine wpAnyL_done (by kernel_rfl) ?_ _
      refine Calm.normal ?_
      gi_wp2_with fail
      go_roundw
      case rel => exact ⟨k + 1, _, by omega, by go_num, Lib.hid hst⟩
      case measure => simp [intOf]; omega
    · obtain rfl : k = ls.length := by omega
      clear hkl
      obtain ⟨qn, hqn⟩ := nd_form (atZ ls o)
      have hcn : wr.cell? ⟨g, ls.length, none⟩ = some (.pointer qn) := hcell _ _ (by rw [wy_at (Nat.le_refl _), List.take_length, hqn])
      have c7 := ST.out.b7.cell
      have hk1 : (ls.length : Int) < (ls.length : Int) + 1 := by omega
      have hsp := sub_put (S := fun k => (n₁ ≤ k ∨ S k) ∧ k < wr.heap.size) x (by intro i hi h; omega) ((HND.out ls wr ST.out.bl).turn (Only.refl (fun _ => False) _) (fun _ h => h.elim) (fun k _ h => h.1)) (by have h1 := HSB.out ls; rw [show subZ o ls = ndL (atZ ls o) from rfl] at h1; omega)
      rw [hqn] at hsp
      clear hqn hcell
      gi_wp2_with fail
      refine ⟨trivial, (callsIn_wide.2 hsp).mono ?_⟩
      rintro e W7 ⟨bw, rfl, hnw, hB7⟩
      have HNW := Lib.hid hnw
      obtain ⟨W8, hW8⟩ : ∃ W8, W8 = W7.alloc (.cells #[.pointer (some ⟨bw, 0, none⟩)] 27) := ⟨_, rfl⟩
      have b10 : Boxed W8 W7.heap.size 27 (.pointer (some ⟨bw, 0, none⟩)) := by rw [hW8]; exact Boxed.new _ _ _
      have z8 : W8.heap.size = W7.heap.size + 1 := by rw [hW8]; simp
      have B8 : Below W7.heap.size W7 W8 := by rw [hW8]; exact new_below _ _
      clear hnw hsp c7 hcn
      gi_wp2_with fail
      rw [← hW8]
      clear hW8
      refine ⟨trivial, (callsIn_wide.2 (back_makes a ls.length cap W8)).mono ?_⟩
      rintro e W9 ⟨rfl, hW9⟩
      rw [z8]
      have bn : Boxed W9 (W7.heap.size + 1) 22 (.slice a ls.length cap) := by rw [hW9, ← z8]; exact Boxed.new _ _ _
      have z9 : W9.heap.size = W7.heap.size + 2 := by rw [hW9]; simp; omega
      have B9 : Below W8.heap.size W8 W9 := by rw [hW9]; exact new_below _ _
      clear hW9
      have b10 := boxed_below b10 B9 b10.lt
      have B79 : Below W7.heap.size W7 W9 := below_step B8 B9
      have Br9 : Below wr.heap.size wr W9 := below_step hB7 B79
      have BW9 : Below W.heap.size W W9 := below_step ST.out.bl Br9
      have st9 : WyS W o ls ls.length (.slice (some ⟨g, 0, none⟩) (ls.length + 1) cap2) W9 := ST.out.below Br9
      have zr := ST.out.b7.lt
      have z7 := hB7.size
      have hseq := back_seqO (W7.heap.size + 1) a ls cap W9 bn (fun j k hk => by
        obtain ⟨b, off, h1, h2, h3⟩ := HT.out j k hk
        exact ⟨b, off, h1, Nat.lt_of_lt_of_le h2 BW9.size, (BW9.cell (p := ⟨b, off + j, none⟩) h2).trans h3⟩) (by omega)
      have hn7 : NodeIs (fun k => ((n₁ ≤ k ∨ S k) ∧ k < wr.heap.size) ∨ W7.heap.size ≤ k) W9 (some (bw, withZ x (ndL (atZ ls o)), ndF (atZ ls o))) := (HNW.out.turn (S' := fun k => ((n₁ ≤ k ∨ S k) ∧ k < wr.heap.size) ∨ W7.heap.size ≤ k) (Only.refl (fun _ => False) _) (fun _ h => h.elim) fun k hk h => h.elim id fun h => by omega).below B79
      have HST9 := Lib.hid st9
      have hglt2 : g < W7.heap.size := by omega
      have hC0 : ∀ k, k < n₁ → BkC W9 W7.heap.size a k := fun k hk => ⟨by have := BW9.size; omega, by have := BW9.size; omega, fun b off h e => by have := (HAT.out b off h).1; omega⟩
      have HC0 := Lib.hid hC0
      have hB10 : BkC W9 W7.heap.size a W7.heap.size := ⟨by omega, by omega, fun b off h e => by have := (HAT.out b off h).2; omega⟩
      clear st9 hC0
      gi_wp2_with fail
      refine wpIn_rangeO (by omega) (gf := 59) (lb := #[.pointer (some ⟨W7.heap.size + 1, 0, none⟩)]) rfl (enters_of Try.func59 (by kernel_rfl) rfl)
        hseq (Below.refl _ _) (fun _ => rfl)
        (BkS S W9 W7.heap.size a o ls x)
        (fun _ _ _ _ => False)
        ?hI ?hIx (BkC W9 W7.heap.size a) ?hC ?hw ?h0
        (fun y => { tmps := #[.pointer q, .slice a ls.length cap, .int .i64 x, undef, undef, undef, .pointer none, .pointer (some ⟨W.heap.size + 1, 0, none⟩), u8, u9, .pointer (some ⟨W7.heap.size, 0, none⟩), .int .i64 (y.1 : Int), strV y.2, .pointer q,
          .slice (some ⟨W.heap.size, 0, none⟩) 1 1, .slice a ls.length cap, .int .i64 (ls.length : Int), .int .i64 (ls.length : Int), .bool false, u19, u20, u21, u22, u23, u24, u25, u26, u27, u28, u29, u30, u31, .slice (some ⟨g, 0, none⟩) (ls.length + 1) cap2,
          .slice a ls.length cap, .int .i64 (ls.length : Int), .pointer (some ⟨g, ls.length, none⟩), .pointer qn, .int .i64 x, .pointer (some ⟨bw, 0, none⟩), .slice a ls.length cap, .func (.func 59) #[] #[.pointer (some ⟨W7.heap.size + 1, 0, none⟩)],
          .int .i64 (y.1 : Int), strV y.2, undef, undef, undef, undef, undef, undef, undef, undef], defers := [] }) ?assign ?body ?done ?stop
      case hI => exact BkS.stab hB10
      case hIx => exact fun _ _ _ _ _ h _ _ => h
      case hC => exact fun k hk => .inl ⟨hk.2.1, hk.2.2⟩
      case hw => exact fun k hk => hk.1
      case h0 =>
        refine ⟨fun _ h => h, fun _ _ _ => rfl, some (bw, withZ x (ndL (atZ ls o)), ndF (atZ ls o)), b10, ?_, hn7.turn (Only.refl (fun _ => False) _) (fun _ h => h.elim) fun k hk h => ?_⟩
        · simp only [List.length_nil, Nat.sub_zero, List.drop_length, List.take_length]
          exact ⟨bw, rfl⟩
        · rcases h with h | h
          · by_cases e1 : k = W7.heap.size + 1
            · exact .inr (by omega)
            · by_cases e2 : ∀ b off, a = some ⟨b, off, none⟩ → k ≠ b
              · exact absurd ⟨hk, e1, e2⟩ h
              · obtain ⟨b, off, h1, h2⟩ : ∃ b off, a = some ⟨b, off, none⟩ ∧ k = b := by
                  refine Classical.byContradiction fun hc => e2 fun b off h1 h2 => hc ⟨b, off, h1, h2⟩
                have h3 := HAT.out b off h1
                exact .inl ⟨.inl (by omega), by have := ST.out.bl.size; omega⟩
          · rcases h with h | h
            · exact .inr (by omega)
            · exact .inl ⟨.inr h, by have h1 := hS k h; have := ST.out.bl.size; omega⟩
      case assign =>
        intro l2 y Wx K hK
        gi_wp2
        exact hK
      case body =>
        rintro l2 C1 pre y Wx hpx ⟨old, same, q9, hb10, hc, hn⟩ hg ho hw
        obtain ⟨j, kk, rfl, hkk, hlj, hlj2⟩ := bk_pre hpx
        rw [hlj] at hc
        obtain ⟨bq, Lq, Fq, rfl⟩ := chg_some0 hc
        have hjl : j < ls.length := (List.getElem?_eq_some_iff.1 hkk).1
        have oX : Only (fun k => k = W7.heap.size) W9 Wx := ⟨ho.os, ho.tape, ho.output, ho.size, fun i hi hne => by
          by_cases e : BkC W9 W7.heap.size a i
          · exact same i e hne
          · exact ho.block i hi e⟩
        have zx := oX.size
        have b7 := boxO HST9.out.b7 oX (by omega)
        have row := own_only HST9.out.row oX fun k hk e => by have := (own_lt ST.out.row hk).2; omega
        obtain ⟨qj, hqj⟩ := nd_form (atZ (ls.take j) o)
        have hrc : Wx.cell? ⟨g, j, none⟩ = some (.pointer qj) := by
          obtain ⟨g', c', e1, _, _, h2⟩ := own_cell row
          injection e1 with e1 e2 e3
          injection e1 with e1
          injection e1 with e1 _ _
          subst e1
          exact h2 j _ (by rw [wy_at (Nat.le_of_lt hjl), hqj])
        have hgx : g < Wx.heap.size := by omega
        have CK : Hid (∀ w, Below Wx.heap.size Wx w → w.cell? ⟨W.heap.size + 1, 0, none⟩ = some (.slice (some ⟨g, 0, none⟩) (ls.length + 1) cap2) ∧ w.cell? ⟨g, j, none⟩ = some (.pointer qj) ∧ w.cell? ⟨W7.heap.size, 0, none⟩ = some (.pointer (some ⟨bq, 0, none⟩))) := Lib.hid fun w hb =>
          ⟨(boxed_below b7 hb b7.lt).cell, (hb.cell (p := ⟨g, j, none⟩) hgx).trans hrc, (boxed_below hb10 hb hb10.lt).cell⟩
        have hpj : NodeIs (fun k => k < Wx.heap.size ∧ (¬ C1 k ∨ k = W7.heap.size ∨ S k)) Wx (atZ (ls.take j) o) :=
          (HND.out (ls.take j) W9 BW9).turn oX (fun k e => .inl (by have := BW9.size; omega)) fun k _ h => by
            rcases h.2 with h | h | h
            · exact .inl (Nat.le_of_not_lt fun hl => h (old k (HC0.out k hl)))
            · exact .inl (by have := BW9.size; omega)
            · exact .inr h
        have hqj2 : NodeIs (fun k => k < Wx.heap.size ∧ (¬ C1 k ∨ k = W7.heap.size ∨ S k)) Wx (some (bq, Lq, Fq)) := hn.turn (Only.refl (fun _ => False) _) (fun _ h => h.elim) fun k _ h => h.2
        have HKP : Hid (∀ w, Below Wx.heap.size Wx w → Calls Try.prog 42 #[.pointer qj, .string ⟨kk.toArray⟩, .pointer (some ⟨bq, 0, none⟩)] w fun e w' => ∃ b, e = .returned (.pointer (some ⟨b, 0, none⟩)) ∧
            NodeIs (fun k => k < Wx.heap.size ∧ (¬ C1 k ∨ k = W7.heap.size ∨ S k)) w' (kidZ (atZ (ls.take j) o) kk b bq Lq Fq) ∧ Below w.heap.size w w') := Lib.hid fun w hb => by
          rw [← hqj]
          refine kid_put (fun i hi h => by have := hb.size; omega) (hpj.below hb) (hqj2.below hb) (at_ok (ls.take j) HOK.out).2 ?_
          have h1 := chg_size (fun L hL => up_withZ hL) (at_ok _ HOK.out) hc
          have h2 := HSZ.out (ls.take j)
          have h3 := at_le (ls.take (j + 1)) o
          have h4 := HN.out
          have h5 : ndN (some (bq, Lq, Fq)) = 1 + Fq.sz := rfl
          rw [List.length_drop] at h1
          omega
        have HEND : Hid (∀ w w' b, Below Wx.heap.size Wx w → NodeIs (fun k => k < Wx.heap.size ∧ (¬ C1 k ∨ k = W7.heap.size ∨ S k)) w (kidZ (atZ (ls.take j) o) kk b bq Lq Fq) → w' = w.setCell ⟨W7.heap.size, 0, none⟩ (.pointer (some ⟨b, 0, none⟩)) →
            ∃ C', Grow C1 C' Wx ∧ Only C1 Wx w' ∧ Wn C' w' ∧ BkS S W9 W7.heap.size a o ls x C' (pre ++ [(j, kk)]) w') := Lib.hid fun w w' b hb hnd hw' => by
          have o2 : Only (fun k => k = W7.heap.size) w w' := by rw [hw']; exact (Only.refl (fun k => k = W7.heap.size) w).setCell (p := ⟨W7.heap.size, 0, none⟩) (.inl rfl) _
          have oA : Only (fun k => k = W7.heap.size) Wx w' := (Only.of_below hb _).trans o2
          have hBC := old _ hB10
          have zb := hb.size
          have z2 := o2.size
          refine ⟨fun k => C1 k ∨ (Wx.heap.size ≤ k ∧ k < w'.heap.size), fun k hk => hk.imp id fun h => h.1, oA.mono fun k _ e => e ▸ hBC, fun k hk => hk.elim (fun h => by have := hw k h; omega) fun h => h.2, fun k hk => .inl (old k hk), fun k hk hne => (oA.block k (hw k (old k hk)) hne).trans (same k hk hne), _, ?_, ?_, hnd.turn o2 (fun k e => ⟨by have := hb10.lt; omega, .inr (.inl e)⟩) fun k hk h => ?_⟩
          · rw [hw']
            exact (boxed_below hb10 hb hb10.lt).set _
          · rw [hlj2]
            rw [at_snoc hkk] at hc
            have hdr : ls.drop j = kk :: ls.drop (j + 1) := by
              obtain ⟨h1, h2⟩ := List.getElem?_eq_some_iff.1 hkk
              rw [List.drop_eq_getElem_cons h1, h2]
            rw [hdr]
            exact ⟨b, bq, Lq, Fq, hc, rfl⟩
          · rcases h with h | h | h
            · refine ⟨Nat.lt_of_not_le fun hl => h (.inr ⟨hl, by omega⟩), .inl fun hc1 => h (.inl hc1)⟩
            · exact ⟨by have := hb10.lt; omega, .inr (.inl h)⟩
            · exact ⟨by have h1 := hS k h; have := BW9.size; omega, .inr (.inr h)⟩
        have HB10 := Lib.hid hb10
        have hC : Below Wx.heap.size Wx Wx.drew := (Below.refl _ _).drew
        have hji : (j : Int) < (ls.length : Int) + 1 := by omega
        clear hpx hlj hlj2 hkk same old hc hn oX b7 row hqj hrc hpj hqj2 hb10 hseq hn7 b10 bn hg ho hw
        gi_wp2_with fail
        refine wpIn_region_till_round (k := 7) (S := (fun w' => w'.cell? ⟨W.heap.size + 1, 0, none⟩ = some (.slice (some ⟨g, 0, none⟩) (ls.length + 1) cap2) ∧ w'.cell? ⟨g, j, none⟩ = some (.pointer qj) ∧ w'.cell? ⟨W7.heap.size, 0, none⟩ = some (.pointer (some ⟨bq, 0, none⟩)))) (by kernel_rfl) (by kernel_rfl) (fun ⟨_, _, h⟩ => h) ?_ (fun hHeld => ?_)
        · exact (CK.out _ hC)
        generalize Wx.drew = Wd at hC hHeld ⊢
        refine wpAnyL_take (i := 0) (oi := ⟨some 43, _, _, _, _, _⟩) (v := ?_) rfl (by kernel_rfl) (by kernel_rfl) (by kernel_rfl) (by kernel_rfl) (by decide) (by kernel_rfl) (by kernel_rfl) (fun _ _ _ h => h) (Or.inl ⟨by rfl, ?_⟩) (by assumption) ?_
        rotate_left
        · (intro w hSw; (try dsimp only at hSw); go_simp; try with_reducible rfl)
        try simp only [Act.put, List.setIfInBounds_toArray, List.set_cons_zero, List.set_cons_succ]
        refine wpAnyL_take (i := 1) (oi := ⟨some 44, _, _, _, _, _⟩) (v := ?_) rfl (by kernel_rfl) (by kernel_rfl) (by kernel_rfl) (by kernel_rfl) (by decide) (by kernel_rfl) (by kernel_rfl) (fun _ _ _ h => h) (Or.inl ⟨by rfl, ?_⟩) (by assumption) ?_
        rotate_left
        · (intro w hSw; (try dsimp only at hSw); go_simp; try with_reducible rfl)
        try simp only [Act.put, List.setIfInBounds_toArray, List.set_cons_zero, List.set_cons_succ]
        refine wpAnyL_take (i := 2) (oi := ⟨some 45, _, _, _, _, _⟩) (v := ?_) rfl (by kernel_rfl) (by kernel_rfl) (by kernel_rfl) (by kernel_rfl) (by decide) (by kernel_rfl) (by kernel_rfl) (fun _ _ _ h => h) (Or.inl ⟨by rfl, ?_⟩) (by assumption) ?_
        rotate_left
        · (intro w hSw; (try dsimp only at hSw); go_simp; try with_reducible rfl)
        try simp only [Act.put, List.setIfInBounds_toArray, List.set_cons_zero, List.set_cons_succ]
        refine wpAnyL_take (i := 3) (oi := ⟨some 46, _, _, _, _, _⟩) (v := ?_) rfl (by kernel_rfl) (by kernel_rfl) (by kernel_rfl) (by kernel_rfl) (by decide) (by kernel_rfl) (by kernel_rfl) (fun _ _ _ h => h) (Or.inl ⟨by rfl, ?_⟩) (by assumption) ?_
        rotate_left
        · (intro w hSw; (try dsimp only at hSw); go_simp; try with_reducible rfl)
        try simp only [Act.put, List.setIfInBounds_toArray, List.set_cons_zero, List.set_cons_succ]
        refine wpAnyL_take (i := 4) (oi := ⟨some 47, _, _, _, _, _⟩) (v := ?_) rfl (by kernel_rfl) (by kernel_rfl) (by kernel_rfl) (by kernel_rfl) (by decide) (by kernel_rfl) (by kernel_rfl) (fun _ _ _ h => h) (Or.inl ⟨by rfl, ?_⟩) (by assumption) ?_
        rotate_left
        · (intro w hSw; (try dsimp only at hSw); go_simp; try with_reducible rfl)
        try simp only [Act.put, List.setIfInBounds_toArray, List.set_cons_zero, List.set_cons_succ]
        refine wpAnyL_take (i := 5) (oi := ⟨some 48, _, _, _, _, _⟩) (v := ?_) rfl (by kernel_rfl) (by kernel_rfl) (by kernel_rfl) (by kernel_rfl) (by decide) (by kernel_rfl) (by kernel_rfl) (fun _ _ _ h => h) (Or.inl ⟨by rfl, ?_⟩) (by assumption) ?_
        rotate_left
        · (intro w hSw; (try dsimp only at hSw); go_simp; try with_reducible rfl)
        try simp only [Act.put, List.setIfInBounds_toArray, List.set_cons_zero, List.set_cons_succ]
        refine wpAnyL_ready (rs := [6]) (by kernel_rfl) (by simp) ?_
        refine AllReadyL.cons (o := ⟨some 49, _, _, _, _, _⟩) rfl (fun K hK => ?_) AllReadyL.nil
        go_simp
        refine (HKP.out _ hC).mono ?_
        rintro e W11 ⟨bw2, rfl, hnw2, hB11⟩
        replace hC := below_step hC hB11
        clear hB11
        go_wp2_with fail
        refine hK.out _ _ ?_ (fun hHeldX => ?_)
        · exact fun _ => (CK.out _ hC)
        clear hK K hHeld
        rename _ => hHeld
        try simp only [Act.put, List.setIfInBounds_toArray, List.set_cons_zero, List.set_cons_succ]
        refine wpAnyL_ready (rs := [7]) (by kernel_rfl) (by simp) ?_
        refine AllReadyL.cons (o := ⟨none, _, _, _, _, _⟩) rfl (fun K hK => ?_) AllReadyL.nil
        have c9 := (boxed_below HB10.out hC HB10.out.lt).cell
        have f9 := (boxed_below HB10.out hC HB10.out.lt).frozen
        go_simp
        clear c9 f9
        obtain ⟨W12, hW12⟩ : ∃ W12, W12 = W11.setCell ⟨W7.heap.size, 0, none⟩ (.pointer (some ⟨bw2, 0, none⟩)) := ⟨_, rfl⟩
        rw [← hW12]
        refine hK.out _ _ ?_ (fun hHeldX => ?_)
        · exact fun h => absurd h (by decide)
        clear hK K hHeld
        rename _ => hHeld
        try simp only [Act.put]
        refine wpAnyL_done (by kernel_rfl) ?_ _
        exact HEND.out _ _ _ hC hnw2 hW12
      case done =>
        rintro D C1 ys Wx hD hCD rfl ⟨old, same, q9, hb10, hc, hn⟩ hg ho hw hK
        rw [bk_len, Nat.sub_self] at hc
        obtain ⟨bq, Lq, Fq, rfl⟩ := chg_some0 hc
        have oX : Only (fun k => k = W7.heap.size) W9 Wx := ⟨ho.os, ho.tape, ho.output, ho.size, fun i hi hne => by
          by_cases e : BkC W9 W7.heap.size a i
          · exact same i e hne
          · exact ho.block i hi e⟩
        have c10 := hb10.cell
        have oD : Only (fun k => k = D) Wx (Wx.putObj D (.deferred none)) := (Only.refl (fun k => k = D) Wx).putObj _ (.inl rfl)
        have hBW : Below W.heap.size W (Wx.putObj D (.deferred none)) :=
          BW9.trans ((oX.step oD fun k hk e => by omega).below BW9.size fun k hk e => by have := ST.out.bl.size; omega)
        have hND : NodeIs S (Wx.putObj D (.deferred none)) (some (bq, Lq, Fq)) := hn.turn oD (fun k e => .inl (e ▸ hCD)) fun _ _ h => .inr (.inr h)
        have HE := Lib.hid (And.intro hc (And.intro hND hBW))
        clear hc hn hND hBW oX oD same old hseq
        gi_wp2
        refine ⟨by simp, .inl ⟨_, _, rfl, run_takeDeferred hK, ?_⟩⟩
        exact ⟨_, results_tmp rfl _ _ _, some (bq, Lq, Fq), rfl, HE.out.1, HE.out.2.1, HE.out.2.2⟩
      case stop =>
        rintro D c C pre Wx _ _ _ h
        exact h.elim
end Go.Proofs.Ytabgedmocdjkcaa
