/- Layer 13 (package trie): whom a topic reaches; Match. Made by tools/gen_trier13.py. · Layer 13 (package trie): Match. -/
import Derived.Test.YtmfejpbijllojaaGreatTrieG13
import Derived.Test.YtmfejpbijllojaaGreatTrieA13
import Derived.Test.YtmfejpbijllojaaGreatOf3
namespace Go.Proofs.YtmfejpbijllojaaGreat
open Go.RowKit Go.Shelf

/-- What lies there once the function is made. -/
structure RSt (w W : World) (q : Option Addr) (n : Int) : Prop where
  b0 : Blk 28 W w.heap.size [.pointer q, .int .i64 n]
  bx : Boxed W (w.heap.size + 1) 30 (.slice none 0 0)
  bg : Boxed W (w.heap.size + 1 + 1) 89 (gfn (w.heap.size + 1) (w.heap.size + 1 + 1))
  low : Below w.heap.size w W
theorem RSt.below {w W W' : World} {q : Option Addr} {n : Int} (h : RSt w W q n) (hb : Below W.heap.size W W') : RSt w W' q n :=
  ⟨h.b0.below hb h.b0.lt, boxed_below h.bx hb h.bx.lt, boxed_below h.bg hb h.bg.lt, below_step h.low hb⟩
theorem rst_made (w : World) (q : Option Addr) (n : Int) : ∃ W, ((w.alloc (.cells #[.pointer q, .int .i64 n] 28)).alloc (.cells #[.slice none 0 0] 30)).alloc (.cells #[.nilFunc] 89) = W ∧ W.cell? ⟨w.heap.size + 1 + 1, 0, none⟩ = some .nilFunc ∧ W.frozen? ⟨w.heap.size + 1 + 1, 0, none⟩ = false ∧ RSt w (W.setCell ⟨w.heap.size + 1 + 1, 0, none⟩ (gfn (w.heap.size + 1) (w.heap.size + 1 + 1))) q n := by
  have h1 := new_below w (.cells #[.pointer q, .int .i64 n] 28)
  have h2 := below_step h1 (new_below _ (.cells #[.slice none 0 0] 30))
  have h3 := below_step h2 (new_below _ (.cells #[.nilFunc] 89))
  have b0 : Blk 28 (w.alloc (.cells #[.pointer q, .int .i64 n] 28)) w.heap.size [.pointer q, .int .i64 n] := Blk.new
  have bx := Boxed.new (w.alloc (.cells #[.pointer q, .int .i64 n] 28)) 30 (.slice none 0 0)
  rw [World.size_alloc] at bx
  have bg := Boxed.new ((w.alloc (.cells #[.pointer q, .int .i64 n] 28)).alloc (.cells #[.slice none 0 0] 30)) 89 .nilFunc
  rw [World.size_alloc, World.size_alloc] at bg
  refine ⟨_, rfl, bg.cell, bg.frozen, ?_, ?_, bg.set _, h3.setCell (p := ⟨w.heap.size + 1 + 1, 0, none⟩) (by show w.heap.size ≤ w.heap.size + 1 + 1; omega) _⟩
  · exact ((b0.alloc _).alloc _).setOther (by omega) 0 _
  · have := (show Blk 30 _ (w.heap.size + 1) [.slice none 0 0] from bx.alloc (.cells #[.nilFunc] 89)).setOther (C := w.heap.size + 1 + 1) (by omega) 0 (gfn (w.heap.size + 1) (w.heap.size + 1 + 1))
    exact this
theorem gst_begin {w0 : World} {X : Nat} (h : Boxed w0 X 30 (.slice none 0 0)) : GSt w0 X w0 [] := ⟨⟨_, h, World.ownsRow_nil _ _ _ _⟩, Only.refl _ _⟩
theorem GSt.arg {w0 w : World} {X : Nat} {A : List Int} (h : GSt w0 X w A) : ∃ v, w.cell? ⟨X, 0, none⟩ = some v ∧ (∃ a n c, v = .slice a n c) ∧ ArgIn w v A := by
  obtain ⟨⟨v, h1, h2⟩, _⟩ := h
  refine ⟨v, h1.cell, ?_, ?_⟩
  · obtain ⟨a, c, rfl⟩ := own_form h2
    exact ⟨a, _, c, rfl⟩
  · exact NumsIn.arg (SliceK.of_own h2)
/-- Gathering from a node on. -/
def GCall (w : World) (q : Option Addr) (n : Int) (qo : Option Addr) (o : Nd) (T : List Key) : Prop := ∀ (W : World) (a : Option Addr) (cap : Nat), RSt w W q n → TextsIn W a T → (∀ p, a = some p → p.block ≠ w.heap.size + 1) → T.length ≤ cap →
  Calls Tryz.prog 60 #[.pointer qo, .slice a T.length cap, .pointer (some ⟨w.heap.size + 1, 0, none⟩), .pointer (some ⟨w.heap.size + 1 + 1, 0, none⟩)] W fun e w' => e = .returned (.tuple #[]) ∧ (∃ v, w'.cell? ⟨w.heap.size + 1, 0, none⟩ = some v ∧ (∃ a n c, v = .slice a n c) ∧ ArgIn w' v (gath T o)) ∧ Below w.heap.size w w'
theorem gcall {S : Nat → Prop} {w : World} {q : Option Addr} {n : Int} {o : Nd} {T : List Key} (ho : NodeIs S w o) (hb : (gath T o).length ≤ 1000000) (hL : ∀ p, (subZ o p).length ≤ 1000) (hN : ndN o ≤ 4000) : GCall w q n (pA o) o T := by
  intro W a cap hr hT ha hc
  have ho' : NodeIs (fun k => k = w.heap.size + 1) W o := ho.turn (Only.of_below hr.low (fun _ => False)) (fun _ h => h.elim) (fun k hk e => by omega)
  have := gathers W (w.heap.size + 1) (w.heap.size + 1 + 1) hr.bx.lt hr.bg (by omega) T o a cap W [] ho' (by simpa using hb) hL hN hT ha hc (gst_begin hr.bx)
  rw [ndP_ptr] at this
  refine this.mono fun e w' ⟨h1, h2⟩ => ⟨h1, ?_, hr.low.trans (h2.only.below hr.low.size (fun k hk e => by omega))⟩
  have := h2.arg
  rw [List.nil_append] at this
  exact this

theorem run_store_func13 {P : Program} {w : World} {a : Addr} {m : Mode} (f : Fn) (c b : Array Value) : (store a (.func f c b) m).run P w = stored P w a (.func f c b) m := run_store P w a _ m rfl
attribute [local go_sem] run_store_func13
set_option maxRecDepth 100000 in
set_option maxHeartbeats 4000000 in
theorem tr_reached {S : Nat → Prop} {o : Nd} {P : List Pr} (t : ByteArray) (w : World) (ho : NodeIs S w o) (h : TrOk o P) (hP : P.length ≤ 110) (ht : topicZ t.data.toList = true) :
    Calls Tryz.prog 37 #[trV o P.length, .string t] w fun e w' => ∃ v, e = .returned v ∧ ArgIn w' v (reachZ t.data.toList o) ∧ Below w.heap.size w w' := by
  have hts : t.size ≤ 1048576 := by have := (size_of_bytes (topicZ_bytes ht)).2; omega
  have hlen := h.reach_len ht hP
  have hn4 : ndN o ≤ 4000 := by have := h.n4 hP; omega
  have HLv : Hid (∀ W, Calls Tryz.prog 22 #[.string t] W fun e w' => ∃ g cap, e = .returned (.slice (some ⟨g, 0, none⟩) (lv t.data.toList).length cap) ∧ W.heap.size ≤ g ∧ (lv t.data.toList).length ≤ cap ∧ TextsIn w' (some ⟨g, 0, none⟩) (lv t.data.toList) ∧ Below W.heap.size W w') := Lib.hid fun W =>
    (topic_Levels_cap t W hts).mono fun e wx ⟨g, cap, h1, h2, h3, h4, h5, h6⟩ => ⟨g, cap, h1, h2, h4, fun i x hx => ⟨g, 0, rfl, h3, by rw [Nat.zero_add]; exact h5 i x hx⟩, h6⟩
  have HPre : Hid (∀ W, Calls Tryz.prog 62 #[.string t, .string ⟨#[36]⟩] W fun e w' => e = .returned (.bool (apartZ t.data.toList)) ∧ W = w') := Lib.hid fun W => strings_HasPrefix t 36 W
  obtain ⟨y, r, hyr⟩ := List.exists_cons_of_ne_nil (lv_ne t.data.toList)
  have HG1 : Hid (apartZ t.data.toList = false → GCall w (pA o) P.length (pA o) o (y :: r)) := Lib.hid fun e => by
    rw [reachZ, if_neg (by rw [e]; simp), hyr] at hlen
    exact gcall ho hlen (h.l1 hP) hn4
  have HG2 : Hid (apartZ t.data.toList = true → GCall w (pA o) P.length (pA ((ndF o).get y)) ((ndF o).get y) r) := Lib.hid fun e => by
    rw [reachZ, if_pos e, hyr, List.tail_cons, List.headD_cons] at hlen
    exact gcall (ho.kid y) hlen (fun p => h.l1 hP (y :: p)) (Nat.le_trans (kid_le y o) hn4)
  have HK : Hid (∀ W, Below w.heap.size w W → Calls Tryz.prog 28 #[.pointer (pA o), keyV y] W fun e w' => e = .returned (.pointer (pA ((ndF o).get y))) ∧ Below W.heap.size W w') := Lib.hid fun W hW => kid_pa (ho.below hW) hn4 y
  have HR : Hid (reachZ t.data.toList o = if apartZ t.data.toList = true then gath r ((ndF o).get y) else gath (y :: r) o) := Lib.hid (by
    rw [reachZ, hyr, List.tail_cons, List.headD_cons])
  unfold trV
  rw [hyr] at HLv
  rw [HR.out]
  clear ho h ht hlen hn4 hyr
  generalize pA o = q at *
  generalize (P.length : Int) = n at *
  generalize hap : apartZ t.data.toList = ap at *
  clear hap
  go_enter Tryz.func37, Tryz.ntmps37
  go_upto_region 3 with fail
  obtain ⟨W3, hW3, k3, f3, hr⟩ := rst_made w q n
  rw [hW3]
  have HR3 := Lib.hid hr
  unfold gfn at HR3
  clear hr hW3
  go_upto_region 4 with fail
  clear k3 f3
  generalize W3.setCell ⟨w.heap.size + 1 + 1, 0, none⟩ _ = W4 at *
  have hst : RSt w W4.drew q n := HR3.out.below (Below.refl _ _).drew
  clear HR3
  refine wp_region_noPanic ?_
  refine wp_region_held_drew (S := (fun w' => w'.cell? ⟨w.heap.size, 0, none⟩ = some (.pointer q))) (by kernel_rfl) ?_ (fun hHeld => ?_)
  · exact hst.b0.at (o := 0) rfl
  refine wpAnyH_take (i := 0) (oi := ⟨some 10, _, _, _, _, _⟩) (v := ?_) rfl (by kernel_rfl) (by kernel_rfl) (by kernel_rfl) (fun _ _ _ h => h) (Or.inl ⟨by rfl, ?_⟩) (by assumption) ?_
  rotate_left
  · (intro w hSw; (try dsimp only at hSw); go_simp; try with_reducible rfl)
  try simp only [Act.put, List.setIfInBounds_toArray, List.set_cons_zero, List.set_cons_succ]
  refine wpAnyH_take (i := 1) (oi := ⟨some 11, _, _, _, _, _⟩) (v := ?_) rfl (by kernel_rfl) (by kernel_rfl) (by kernel_rfl) (fun _ _ _ h => h) (Or.inl ⟨by rfl, ?_⟩) (by assumption) ?_
  rotate_left
  · (intro w hSw; (try dsimp only at hSw); go_simp; try with_reducible rfl)
  try simp only [Act.put, List.setIfInBounds_toArray, List.set_cons_zero, List.set_cons_succ]
  refine wpAnyH_take (i := 2) (oi := ⟨some 12, _, _, _, _, _⟩) (v := ?_) rfl (by kernel_rfl) (by kernel_rfl) (by kernel_rfl) (fun _ _ _ h => h) (Or.inl ⟨by rfl, ?_⟩) (by assumption) ?_
  rotate_left
  · (intro w hSw; (try dsimp only at hSw); go_simp; try with_reducible rfl)
  try simp only [Act.put, List.setIfInBounds_toArray, List.set_cons_zero, List.set_cons_succ]
  refine wpAnyH_ready (rs := [3]) (by kernel_rfl) (by simp) ?_
  refine AllReadyH.cons (o := ⟨some 13, _, _, _, _, _⟩) rfl (fun K hK => ?_) AllReadyH.nil
  go_simp
  refine (HLv.out _).mono ?_
  rintro e wx ⟨g, cap, rfl, hg, hcap, hT, hBx⟩
  have HT := Lib.hid hT
  have hgw : w.heap.size + 1 < g := by have := hst.bx.lt; omega
  replace hst := hst.below hBx
  clear hBx hT hg
  go_wp2_with fail
  refine hK.out _ _ ?_ (fun hHeldX => ?_)
  · exact hst.b0.at (o := 0) rfl
  clear hK K hHeld
  rename _ => hHeld
  try simp only [Act.put, List.setIfInBounds_toArray, List.set_cons_zero, List.set_cons_succ]
  refine wpAnyH_take (i := 4) (oi := ⟨some 7, _, _, _, _, _⟩) (v := ?_) rfl (by kernel_rfl) (by kernel_rfl) (by kernel_rfl) (fun _ _ _ h => h) (Or.inl ⟨by rfl, ?_⟩) (by assumption) ?_
  rotate_left
  · (intro w hSw; (try dsimp only at hSw); go_simp; try with_reducible rfl)
  try simp only [Act.put, List.setIfInBounds_toArray, List.set_cons_zero, List.set_cons_succ]
  refine wpAnyH_take (i := 5) (oi := ⟨some 8, _, _, _, _, _⟩) (v := ?_) rfl (by kernel_rfl) (by kernel_rfl) (by kernel_rfl) (fun _ _ _ h => h) (Or.inl ⟨by rfl, ?_⟩) (by assumption) ?_
  rotate_left
  · (intro w hSw; (try dsimp only at hSw); go_simp; try with_reducible rfl)
  try simp only [Act.put, List.setIfInBounds_toArray, List.set_cons_zero, List.set_cons_succ]
  refine wpAnyH_done (by kernel_rfl) ?_ _
  refine NoPanic.normal ?_
  have HST := Lib.hid hst
  clear hst hHeld
  cases ap with
  | false =>
    have HGC := Lib.hid (HG1.out rfl)
    go_wp2_with fail
    refine (HPre.out _).mono ?_
    rintro e w' ⟨rfl, rfl⟩
    have cG := HST.out.bg.cell
    unfold gfn at cG
    go_wp2_with fail
    refine (HGC.out _ _ _ HST.out HT.out (fun p hp => by cases hp; show g ≠ _; omega) hcap).mono ?_
    rintro e w5 ⟨rfl, ⟨v, hv, ⟨va, vn, vc, rfl⟩, harg⟩, hB5⟩
    have HA := Lib.hid (And.intro harg hB5)
    clear harg hB5 cG
    go_wp2
    go_ret
    exact ⟨_, rfl, by simpa using HA.out.1, HA.out.2⟩
  | true =>
    have HGC := Lib.hid (HG2.out rfl)
    obtain ⟨b, off, hgo, hgl, hgc⟩ := HT.out.head
    cases hgo
    have HTT := Lib.hid HT.out.tail
    go_wp2_with fail
    refine (HPre.out _).mono ?_
    rintro e w' ⟨rfl, rfl⟩
    rw [List.length_cons] at hcap
    have hle1 : (1 : Int) ≤ (r.length : Int) + 1 := by omega
    have HGcell : Hid (∀ W, Below wx.heap.size wx W → W.cell? ⟨g, 0, none⟩ = some (keyV y)) := Lib.hid fun W hW => (hW.cell (p := ⟨g, 0, none⟩) hgl).trans hgc
    clear hgl hgc
    by_cases hcap1 : cap = 1
    · subst hcap1
      have hr0 : r.length = 0 := by omega
      have hrn : r = [] := List.eq_nil_of_length_eq_zero hr0
      subst hrn
      clear hr0
      go_upto_region 6 with fail
      have hC : Below wx.heap.size wx wx.drew := (Below.refl _ _).drew
      refine wp_region_noPanic ?_
      refine wp_region_held_drew (S := (fun w' => w'.cell? ⟨g, 0, none⟩ = some (keyV y))) (by kernel_rfl) ?_ (fun hHeld => ?_)
      · exact HGcell.out _ hC
      refine wpAnyH_take (i := 0) (oi := ⟨some 16, _, _, _, _, _⟩) (v := ?_) rfl (by kernel_rfl) (by kernel_rfl) (by kernel_rfl) (fun _ _ _ h => h) (Or.inl ⟨by rfl, ?_⟩) (by assumption) ?_
      rotate_left
      · (intro w hSw; (try dsimp only at hSw); go_simp; try with_reducible rfl)
      try simp only [Act.put, List.setIfInBounds_toArray, List.set_cons_zero, List.set_cons_succ]
      refine wpAnyH_take (i := 1) (oi := ⟨some 17, _, _, _, _, _⟩) (v := ?_) rfl (by kernel_rfl) (by kernel_rfl) (by kernel_rfl) (fun _ _ _ h => h) (Or.inl ⟨by rfl, ?_⟩) (by assumption) ?_
      rotate_left
      · (intro w hSw; (try dsimp only at hSw); go_simp; try with_reducible rfl)
      try simp only [Act.put, List.setIfInBounds_toArray, List.set_cons_zero, List.set_cons_succ]
      refine wpAnyH_take (i := 2) (oi := ⟨some 18, _, _, _, _, _⟩) (v := ?_) rfl (by kernel_rfl) (by kernel_rfl) (by kernel_rfl) (fun _ _ _ h => h) (Or.inl ⟨by rfl, ?_⟩) (by assumption) ?_
      rotate_left
      · (intro w hSw; (try dsimp only at hSw); go_simp; try with_reducible rfl)
      try simp only [Act.put, List.setIfInBounds_toArray, List.set_cons_zero, List.set_cons_succ]
      refine wpAnyH_take (i := 3) (oi := ⟨some 19, _, _, _, _, _⟩) (v := ?_) rfl (by kernel_rfl) (by kernel_rfl) (by kernel_rfl) (fun _ _ _ h => h) (Or.inl ⟨by rfl, ?_⟩) (by assumption) ?_
      rotate_left
      · (intro w hSw; (try dsimp only at hSw); go_simp; try with_reducible rfl)
      try simp only [Act.put, List.setIfInBounds_toArray, List.set_cons_zero, List.set_cons_succ]
      refine wpAnyH_take (i := 5) (oi := ⟨some 21, _, _, _, _, _⟩) (v := ?_) rfl (by kernel_rfl) (by kernel_rfl) (by kernel_rfl) (fun _ _ _ h => h) (Or.inl ⟨by rfl, ?_⟩) (by assumption) ?_
      rotate_left
      · (intro w hSw; (try dsimp only at hSw); go_simp; try with_reducible rfl)
      try simp only [Act.put, List.setIfInBounds_toArray, List.set_cons_zero, List.set_cons_succ]
      refine wpAnyH_take (i := 6) (oi := ⟨some 22, _, _, _, _, _⟩) (v := ?_) rfl (by kernel_rfl) (by kernel_rfl) (by kernel_rfl) (fun _ _ _ h => h) (Or.inl ⟨by rfl, ?_⟩) (by assumption) ?_
      rotate_left
      · (intro w hSw; (try dsimp only at hSw); go_simp; try with_reducible rfl)
      try simp only [Act.put, List.setIfInBounds_toArray, List.set_cons_zero, List.set_cons_succ]
      refine wpAnyH_ready (rs := [4]) (by kernel_rfl) (by simp) ?_
      refine AllReadyH.cons (o := ⟨some 20, _, _, _, _, _⟩) rfl (fun K hK => ?_) AllReadyH.nil
      go_simp
      refine (HK.out _ (below_step HST.out.low hC)).mono ?_
      rintro e wx2 ⟨rfl, hBx⟩
      replace hC := below_step hC hBx
      clear hBx
      go_wp2_with fail
      refine hK.out _ _ ?_ (fun hHeldX => ?_)
      · exact HGcell.out _ hC
      clear hK K hHeld
      rename _ => hHeld
      try simp only [Act.put, List.setIfInBounds_toArray, List.set_cons_zero, List.set_cons_succ]
      refine wpAnyH_take (i := 7) (oi := ⟨some 7, _, _, _, _, _⟩) (v := ?_) rfl (by kernel_rfl) (by kernel_rfl) (by kernel_rfl) (fun _ _ _ h => h) (Or.inl ⟨by rfl, ?_⟩) (by assumption) ?_
      rotate_left
      · (intro w hSw; (try dsimp only at hSw); go_simp; try with_reducible rfl)
      try simp only [Act.put, List.setIfInBounds_toArray, List.set_cons_zero, List.set_cons_succ]
      refine wpAnyH_take (i := 8) (oi := ⟨some 8, _, _, _, _, _⟩) (v := ?_) rfl (by kernel_rfl) (by kernel_rfl) (by kernel_rfl) (fun _ _ _ h => h) (Or.inl ⟨by rfl, ?_⟩) (by assumption) ?_
      rotate_left
      · (intro w hSw; (try dsimp only at hSw); go_simp; try with_reducible rfl)
      try simp only [Act.put, List.setIfInBounds_toArray, List.set_cons_zero, List.set_cons_succ]
      refine wpAnyH_done (by kernel_rfl) ?_ _
      refine NoPanic.normal ?_
      have HST2 := Lib.hid (HST.out.below hC)
      have HTX : Hid (TextsIn wx2 (some ⟨g, 0, none⟩) []) := Lib.hid (textsIn_nil _ _)
      clear hHeld hC
      have cG := HST2.out.bg.cell
      unfold gfn at cG
      go_wp2_with fail
      refine (HGC.out _ _ _ HST2.out HTX.out (fun p hp => by cases hp; show g ≠ _; omega) (by first | omega | simp)).mono ?_
      rintro e w5 ⟨rfl, ⟨v, hv, ⟨va, vn, vc, rfl⟩, harg⟩, hB5⟩
      have HA := Lib.hid (And.intro harg hB5)
      clear harg hB5 cG
      go_wp2
      go_ret
      exact ⟨_, rfl, by simpa using HA.out.1, HA.out.2⟩
    · go_upto_region 6 with fail
      have hC : Below wx.heap.size wx wx.drew := (Below.refl _ _).drew
      refine wp_region_noPanic ?_
      refine wp_region_held_drew (S := (fun w' => w'.cell? ⟨g, 0, none⟩ = some (keyV y))) (by kernel_rfl) ?_ (fun hHeld => ?_)
      · exact HGcell.out _ hC
      refine wpAnyH_take (i := 0) (oi := ⟨some 16, _, _, _, _, _⟩) (v := ?_) rfl (by kernel_rfl) (by kernel_rfl) (by kernel_rfl) (fun _ _ _ h => h) (Or.inl ⟨by rfl, ?_⟩) (by assumption) ?_
      rotate_left
      · (intro w hSw; (try dsimp only at hSw); go_simp; try with_reducible rfl)
      try simp only [Act.put, List.setIfInBounds_toArray, List.set_cons_zero, List.set_cons_succ]
      refine wpAnyH_take (i := 1) (oi := ⟨some 17, _, _, _, _, _⟩) (v := ?_) rfl (by kernel_rfl) (by kernel_rfl) (by kernel_rfl) (fun _ _ _ h => h) (Or.inl ⟨by rfl, ?_⟩) (by assumption) ?_
      rotate_left
      · (intro w hSw; (try dsimp only at hSw); go_simp; try with_reducible rfl)
      try simp only [Act.put, List.setIfInBounds_toArray, List.set_cons_zero, List.set_cons_succ]
      refine wpAnyH_take (i := 2) (oi := ⟨some 18, _, _, _, _, _⟩) (v := ?_) rfl (by kernel_rfl) (by kernel_rfl) (by kernel_rfl) (fun _ _ _ h => h) (Or.inl ⟨by rfl, ?_⟩) (by assumption) ?_
      rotate_left
      · (intro w hSw; (try dsimp only at hSw); go_simp; try with_reducible rfl)
      try simp only [Act.put, List.setIfInBounds_toArray, List.set_cons_zero, List.set_cons_succ]
      refine wpAnyH_take (i := 3) (oi := ⟨some 19, _, _, _, _, _⟩) (v := ?_) rfl (by kernel_rfl) (by kernel_rfl) (by kernel_rfl) (fun _ _ _ h => h) (Or.inl ⟨by rfl, ?_⟩) (by assumption) ?_
      rotate_left
      · (intro w hSw; (try dsimp only at hSw); go_simp; try with_reducible rfl)
      try simp only [Act.put, List.setIfInBounds_toArray, List.set_cons_zero, List.set_cons_succ]
      refine wpAnyH_take (i := 5) (oi := ⟨some 21, _, _, _, _, _⟩) (v := ?_) rfl (by kernel_rfl) (by kernel_rfl) (by kernel_rfl) (fun _ _ _ h => h) (Or.inl ⟨by rfl, ?_⟩) (by assumption) ?_
      rotate_left
      · (intro w hSw; (try dsimp only at hSw); go_simp; try with_reducible rfl)
      try simp only [Act.put, List.setIfInBounds_toArray, List.set_cons_zero, List.set_cons_succ]
      refine wpAnyH_take (i := 6) (oi := ⟨some 22, _, _, _, _, _⟩) (v := ?_) rfl (by kernel_rfl) (by kernel_rfl) (by kernel_rfl) (fun _ _ _ h => h) (Or.inl ⟨by rfl, ?_⟩) (by assumption) ?_
      rotate_left
      · (intro w hSw; (try dsimp only at hSw); go_simp; try with_reducible rfl)
      try simp only [Act.put, List.setIfInBounds_toArray, List.set_cons_zero, List.set_cons_succ]
      refine wpAnyH_ready (rs := [4]) (by kernel_rfl) (by simp) ?_
      refine AllReadyH.cons (o := ⟨some 20, _, _, _, _, _⟩) rfl (fun K hK => ?_) AllReadyH.nil
      go_simp
      refine (HK.out _ (below_step HST.out.low hC)).mono ?_
      rintro e wx2 ⟨rfl, hBx⟩
      replace hC := below_step hC hBx
      clear hBx
      go_wp2_with fail
      refine hK.out _ _ ?_ (fun hHeldX => ?_)
      · exact HGcell.out _ hC
      clear hK K hHeld
      rename _ => hHeld
      try simp only [Act.put, List.setIfInBounds_toArray, List.set_cons_zero, List.set_cons_succ]
      refine wpAnyH_take (i := 7) (oi := ⟨some 7, _, _, _, _, _⟩) (v := ?_) rfl (by kernel_rfl) (by kernel_rfl) (by kernel_rfl) (fun _ _ _ h => h) (Or.inl ⟨by rfl, ?_⟩) (by assumption) ?_
      rotate_left
      · (intro w hSw; (try dsimp only at hSw); go_simp; try with_reducible rfl)
      try simp only [Act.put, List.setIfInBounds_toArray, List.set_cons_zero, List.set_cons_succ]
      refine wpAnyH_take (i := 8) (oi := ⟨some 8, _, _, _, _, _⟩) (v := ?_) rfl (by kernel_rfl) (by kernel_rfl) (by kernel_rfl) (fun _ _ _ h => h) (Or.inl ⟨by rfl, ?_⟩) (by assumption) ?_
      rotate_left
      · (intro w hSw; (try dsimp only at hSw); go_simp; try with_reducible rfl)
      try simp only [Act.put, List.setIfInBounds_toArray, List.set_cons_zero, List.set_cons_succ]
      refine wpAnyH_done (by kernel_rfl) ?_ _
      refine NoPanic.normal ?_
      have HST2 := Lib.hid (HST.out.below hC)
      have HTX : Hid (TextsIn wx2 (some ⟨g, 0 + 1, none⟩) r) := Lib.hid (HTT.out.below hC)
      clear hHeld hC
      have cG := HST2.out.bg.cell
      unfold gfn at cG
      go_wp2_with fail
      refine (HGC.out _ _ _ HST2.out HTX.out (fun p hp => by cases hp; show g ≠ _; omega) (by first | omega | simp)).mono ?_
      rintro e w5 ⟨rfl, ⟨v, hv, ⟨va, vn, vc, rfl⟩, harg⟩, hB5⟩
      have HA := Lib.hid (And.intro harg hB5)
      clear harg hB5 cG
      go_wp2
      go_ret
      exact ⟨_, rfl, by simpa using HA.out.1, HA.out.2⟩
end Go.Proofs.YtmfejpbijllojaaGreat

namespace Go.Proofs.YtmfejpbijllojaaGreat
open Go.RowKit Go.Shelf

theorem numsIn_put {t : TypeId} {W : World} {B : Nat} {v x : Value} {L : List Int} (h : NumsIn W v L) (hb : Blk t W B [x]) (hx : ∀ z, x ≠ numV z) (u : Value) : NumsIn (W.setCell ⟨B, 0, none⟩ u) v L := by
  obtain ⟨h0, h1 | ⟨b, off, cap, hv, h2, h3, h4⟩⟩ := h
  · exact ⟨h0, .inl h1⟩
  · refine ⟨h0, .inr ⟨b, off, cap, hv, h2, by simpa [World.setCell] using h3, fun j y hj => ?_⟩⟩
    have hc := h4 j y hj
    have hne : b ≠ B := by
      rintro rfl
      obtain ⟨z, rfl⟩ : ∃ z, numV z = y := by
        rw [List.getElem?_map] at hj
        cases hL : L[j]? with
        | none => rw [hL] at hj; simp at hj
        | some z => rw [hL] at hj; exact ⟨z, by simpa using hj⟩
      have hh : W.heap[b]? = some (.cells #[x] t (0, 0)) := hb
      rw [World.cell?, hh] at hc
      cases hk : off + j with
      | zero => rw [hk] at hc; simp at hc; exact hx z hc
      | succ k => rw [hk] at hc; simp at hc
    rw [← hc]
    exact World.cell?_of_block (w := W) (Below.heap_setCell _ _ _ _ (fun e => hne e))
theorem setIn_put {t : TypeId} {W : World} {B : Nat} {v x : Value} {L : List Int} (h : SetIn W v L) (hb : Blk t W B [x]) (hx : ∀ z, x ≠ numV z) (u : Value) : SetIn (W.setCell ⟨B, 0, none⟩ u) v L := by
  obtain ⟨⟨s, hv, hs⟩, hu⟩ := h
  exact ⟨⟨s, hv, numsIn_put hs hb hx u⟩, hu⟩
theorem tr_isTopic (t : ByteArray) (w : World) : Calls Tryz.prog 35 #[.string t] w fun e w' => e = .returned (.bool (topicZ t.data.toList)) ∧ w = w' := by
  go_enter Tryz.func35, Tryz.ntmps35
  go_wp2_with fail
  refine (topic_Topic _ _).mono ?_
  rintro e w' ⟨rfl, rfl⟩
  go_wp2
  go_ret
  exact ⟨rfl, rfl⟩
theorem twoM (w : World) (q : Option Addr) (n : Int) : ∃ W, (w.alloc (.cells #[.pointer q, .int .i64 n] 28)).alloc (.cells #[.slice none 0 0] 46) = W ∧ Below w.heap.size w W ∧ Blk 28 W w.heap.size [.pointer q, .int .i64 n] ∧ Blk 46 W (w.heap.size + 1) [.slice none 0 0] := by
  refine ⟨_, rfl, below_step (new_below _ _) (new_below _ _), Blk.alloc Blk.new _, ?_⟩
  have := Blk.new (W := w.alloc (.cells #[.pointer q, .int .i64 n] 28)) (t := 46) (l := [.slice none 0 0])
  rw [World.size_alloc] at this; exact this

set_option maxRecDepth 100000 in
set_option maxHeartbeats 2000000 in
theorem tr_Match {S : Nat → Prop} {o : Nd} {P : List Pr} (t : ByteArray) (w : World) (ho : NodeIs S w o) (h : TrOk o P) (hP : P.length ≤ 110) :
    Calls Tryz.prog 18 #[trV o P.length, .string t] w fun e w' => ∃ r, e = .returned r ∧ SetIn w' r (ofZ (mzP P t.data.toList)) ∧ Below w.heap.size w w' := by
  have HT := Lib.hid (tr_isTopic t)
  cases ht : topicZ t.data.toList with
  | false =>
    rw [TrOk.match_none ht, ofZ_nil]
    rw [ht] at HT
    unfold trV
    clear ho h ht
    generalize pA o = q at *
    generalize P.length = n at *
    go_enter Tryz.func18, Tryz.ntmps18
    go_wp2_with fail
    obtain ⟨W2, hW2, B2, b0, b1⟩ := twoM w q n
    rw [hW2]
    refine (HT.out _).mono ?_
    rintro e w' ⟨rfl, rfl⟩
    have HB := Lib.hid B2
    have f1 := b1.frozen 0
    have m0 := b1.at (o := 0) rfl
    have hb1 := Lib.hid b1
    clear hW2 B2 b0 b1 HT
    go_wp2
    have r0 := ((hb1.out).set 0 (.slice none 0 0)).at (o := 0) rfl
    refine bodyPost_ret (by simp [results, Tryz.f18, go_sem, r0]; rfl) rfl ?_
    exact ⟨_, rfl, setIn_nil _, HB.out.setCell (p := ⟨w.heap.size + 1, 0, none⟩) (Nat.le_succ _) _⟩
  | true =>
    have HR : Hid (∀ W, Below w.heap.size w W → Calls Tryz.prog 37 #[.agg #[.pointer (pA o), .int .i64 (P.length : Int)], .string t] W fun e w' => ∃ v, e = .returned v ∧ ArgIn w' v (reachZ t.data.toList o) ∧ Below W.heap.size W w') := Lib.hid fun W hW =>
      tr_reached t W (ho.below hW) h hP ht
    have hlen := h.reach_len ht hP
    rw [← h.ofZ ht]
    rw [ht] at HT
    unfold trV
    clear ho h ht
    generalize reachZ t.data.toList o = L at *
    generalize pA o = q at *
    generalize P.length = n at *
    go_enter Tryz.func18, Tryz.ntmps18
    go_wp2_with fail
    obtain ⟨W2, hW2, B2, b0, b1⟩ := twoM w q n
    rw [hW2]
    refine (HT.out _).mono ?_
    rintro e w' ⟨rfl, rfl⟩
    have HB := Lib.hid B2
    have k0 := b0.at (o := 0) rfl
    have k1 := b0.at (o := 1) rfl
    clear hW2 B2 HT
    go_wp2_with fail
    refine (HR.out _ HB.out).mono ?_
    rintro e w3 ⟨v, rfl, harg, hB3⟩
    have c1 := b1.below hB3 b1.lt
    have HB3 := Lib.hid (below_step HB.out hB3)
    have HA := Lib.hid harg
    have hform : ∃ a n c, v = .slice a n c := by
      obtain ⟨a, c, rfl, _⟩ := harg
      exact ⟨_, _, _, rfl⟩
    obtain ⟨va, vn, vc, rfl⟩ := hform
    clear harg hB3 b0 b1 k0 k1 HR
    go_wp2_with fail
    refine (set_Of _ L _ HA.out hlen).mono ?_
    rintro e w4 ⟨r, rfl, hr, hB4⟩
    obtain ⟨a, n', c, rfl⟩ := hr.form
    have d1 := c1.below hB4 c1.lt
    have HB4 := Lib.hid (below_step HB3.out hB4)
    have HS := Lib.hid hr
    have f1 := d1.frozen 0
    have m0 := d1.at (o := 0) rfl
    have hd1 := Lib.hid d1
    clear hr hB4 c1 d1 HA
    go_wp2
    have r0 := ((hd1.out).set 0 (.slice a n' c)).at (o := 0) rfl
    refine bodyPost_ret (by simp [results, Tryz.f18, go_sem, r0]; rfl) rfl ?_
    exact ⟨_, rfl, setIn_put HS.out hd1.out (fun z e => by cases e) _, HB4.out.setCell (p := ⟨w.heap.size + 1, 0, none⟩) (Nat.le_succ _) _⟩
end Go.Proofs.YtmfejpbijllojaaGreat
