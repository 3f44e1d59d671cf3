/- TriePlays' walk. Made by tools/gen_law13.py. -/
import Derived.Test.YtmfejpbijllojaaGreatLawT13
import Derived.Test.YtmfejpbijllojaaGreatRefD13
import Derived.Test.YtmfejpbijllojaaGreatRefS13
import Derived.Deep.CutBlock
import Derived.Deep.RegionHeld3
namespace Go.Proofs.YtmfejpbijllojaaGreat
open Go.RowKit Go.Shelf

abbrev S2 (T X : Nat) : Nat → Prop := fun j => j = T ∨ j = X
theorem rf_Add {S : Nat → Prop} (v0 : Value) (P : List Pr) (f : Key) (s : Int) (w : World) (hS : ∀ k, w.heap.size ≤ k → ¬ S k) (h : RfAt S w v0 P) (hbig : P.length ≤ 10000) (hfl : f.length ≤ 1048576) :
    Calls Tryz.prog 10 #[v0, keyV f, .int .i64 s] w fun e w' => ∃ r, e = .returned (.tuple #[r, .int .i64 (addE P f s)]) ∧ RfAt S w' r (addZ P f s) ∧ Below w.heap.size w w' := by
  cases hf : filterZ f with
  | false =>
    rw [addE_bad hf, addZ_bad hf]
    exact (rf_add_bad v0 P f s w h hfl hf).mono fun e w' ⟨h1, h2⟩ => ⟨v0, h1, h.below h2, h2⟩
  | true =>
    by_cases hn : (f, s) ∈ P
    · rw [addE_twice hf hn, addZ_twice hn]
      exact (rf_add_same v0 P f s w h hbig hfl hf hn).mono fun e w' ⟨h1, h2⟩ => ⟨v0, h1, h.below h2, h2⟩
    · rw [addE_new hf hn, addZ_new hf hn]
      exact rf_add_new v0 P f s w hS h hbig hfl hf hn
theorem rf_Drop {S : Nat → Prop} (v0 : Value) (P : List Pr) (f : Key) (s : Int) (w : World) (hS : ∀ k, w.heap.size ≤ k → ¬ S k) (h : RfAt S w v0 P) (hbig : P.length ≤ 10000) (hnd : P.Nodup) (hfl : f.length ≤ 1048576) :
    Calls Tryz.prog 8 #[v0, keyV f, .int .i64 s] w fun e w' => ∃ r, e = .returned (.tuple #[r, .int .i64 (dropK P f s)]) ∧ RfAt S w' r (dropZ P f s) ∧ Below w.heap.size w w' := by
  cases hf : filterZ f with
  | false =>
    rw [show dropK P f s = 3 by rw [dropK, if_neg (by simp [hf])], show dropZ P f s = P from if_neg fun e => by rw [hf] at e; exact absurd e.1 (by decide)]
    exact (rf_drop_bad v0 P f s w h hfl hf).mono fun e w' ⟨h1, h2⟩ => ⟨v0, h1, h.below h2, h2⟩
  | true =>
    by_cases hn : (f, s) ∈ P
    · rw [show dropK P f s = 0 by rw [dropK, if_pos hf, if_pos hn], show dropZ P f s = woP P (f, s) from if_pos ⟨hf, hn⟩]
      exact rf_drop_old v0 P f s w hS h hbig hnd hfl hf hn
    · rw [show dropK P f s = 6 by rw [dropK, if_pos hf, if_neg hn], show dropZ P f s = P from if_neg fun e => hn e.2]
      exact (rf_drop_same v0 P f s w h hbig hfl hf hn).mono fun e w' ⟨h1, h2⟩ => ⟨v0, h1, h.below h2, h2⟩
/-- Where the law's loop stands: the trie at T, the document's at X; those ahead at B and C. -/
structure MSt (w1 wr : World) (T X : Nat) (q : Option Addr) (n : Nat) (o : Nd) (P : List Pr) (a : Option Addr) (na ca : Nat) (b : Option Addr) (nb cb : Nat) (PX : List Pr) : Prop where
  t : BxAt (S2 T X) wr T q n o P
  x : Blk 32 wr X [.slice a na ca, .slice b nb cb]
  r : RfAt (S2 T X) wr (.agg #[.slice a na ca, .slice b nb cb]) PX
  low : Below w1.heap.size w1 wr
  lT : w1.heap.size ≤ T
  lX : w1.heap.size ≤ X
  ne : T ≠ X
structure OSt (wr : World) (T X B C : Nat) (q : Option Addr) (n : Nat) (o : Nd) (P : List Pr) (a : Option Addr) (na ca : Nat) (b : Option Addr) (nb cb : Nat) : Prop where
  t : BxAt (S2 T X) wr B q n o P
  x : Blk 32 wr C [.slice a na ca, .slice b nb cb]
  r : RfAt (S2 T X) wr (.agg #[.slice a na ca, .slice b nb cb]) P
  bT : B ≠ T
  bX : B ≠ X
  cT : C ≠ T
  cX : C ≠ X
section
variable {w1 wr W : World} {T X B C n n' na ca nb cb na' ca' nb' cb' : Nat} {q q' a b a' b' : Option Addr} {o o' : Nd} {P P' PX : List Pr}
theorem MSt.below (h : MSt w1 wr T X q n o P a na ca b nb cb PX) (hb : Below wr.heap.size wr W) : MSt w1 W T X q n o P a na ca b nb cb PX :=
  ⟨h.t.below hb, h.x.below hb h.x.lt, h.r.below hb, below_step h.low hb, h.lT, h.lX, h.ne⟩
theorem OSt.below (h : OSt wr T X B C q n o P a na ca b nb cb) (hb : Below wr.heap.size wr W) : OSt W T X B C q n o P a na ca b nb cb :=
  ⟨h.t.below hb, h.x.below hb h.x.lt, h.r.below hb, h.bT, h.bX, h.cT, h.cX⟩
theorem MSt.fresh (h : MSt w1 wr T X q n o P a na ca b nb cb PX) : ∀ j, wr.heap.size ≤ j → ¬ S2 T X j := fun j hj e => by
  have h1 := h.t.box.lt
  have h2 := h.x.lt
  rcases e with e | e <;> omega
theorem MSt.putT (h : MSt w1 wr T X q n o P a na ca b nb cb PX) (hn : NdAt (S2 T X) wr q' n' o' P') : MSt w1 ((wr.setCell ⟨T, 0, none⟩ (.pointer q')).setCell ⟨T, 1, none⟩ (.int .i64 (n' : Int))) T X q' n' o' P' a na ca b nb cb PX :=
  ⟨h.t.put (Below.refl _ _) hn (.inl rfl), h.x.only (only_put2 wr T _ _) (Ne.symm h.ne), h.r.only (only_put2 wr T _ _) (fun _ e => .inl e), (h.low.setCell (p := ⟨T, 0, none⟩) h.lT _).setCell (p := ⟨T, 1, none⟩) h.lT _, h.lT, h.lX, h.ne⟩
theorem MSt.putX (h : MSt w1 wr T X q n o P a na ca b nb cb PX) (hr : RfAt (S2 T X) wr (.agg #[.slice a' na' ca', .slice b' nb' cb']) P') : MSt w1 ((wr.setCell ⟨X, 0, none⟩ (.slice a' na' ca')).setCell ⟨X, 1, none⟩ (.slice b' nb' cb')) T X q n o P a' na' ca' b' nb' cb' P' :=
  ⟨h.t.only (only_put2 wr X _ _) (fun _ e => .inr e) h.ne, blk_put2 h.x _ _, hr.only (only_put2 wr X _ _) (fun _ e => .inr e), (h.low.setCell (p := ⟨X, 0, none⟩) h.lX _).setCell (p := ⟨X, 1, none⟩) h.lX _, h.lT, h.lX, h.ne⟩
theorem OSt.putT (h : OSt wr T X B C q n o P a na ca b nb cb) (u v : Value) : OSt ((wr.setCell ⟨T, 0, none⟩ u).setCell ⟨T, 1, none⟩ v) T X B C q n o P a na ca b nb cb :=
  ⟨h.t.only (only_put2 wr T _ _) (fun _ e => .inl e) h.bT, h.x.only (only_put2 wr T _ _) h.cT, h.r.only (only_put2 wr T _ _) (fun _ e => .inl e), h.bT, h.bX, h.cT, h.cX⟩
theorem OSt.putX (h : OSt wr T X B C q n o P a na ca b nb cb) (u v : Value) : OSt ((wr.setCell ⟨X, 0, none⟩ u).setCell ⟨X, 1, none⟩ v) T X B C q n o P a na ca b nb cb :=
  ⟨h.t.only (only_put2 wr X _ _) (fun _ e => .inr e) h.bX, h.x.only (only_put2 wr X _ _) h.cX, h.r.only (only_put2 wr X _ _) (fun _ e => .inr e), h.bT, h.bX, h.cT, h.cX⟩
theorem OSt.lens (h : OSt wr T X B C q n o P a na ca b nb cb) : na = P.length := by
  obtain ⟨_, _, _, _, e, _⟩ := h.r
  cases e; rfl
theorem MSt.lens (h : MSt w1 wr T X q n o P a na ca b nb cb PX) : na = PX.length := by
  obtain ⟨_, _, _, _, e, _⟩ := h.r
  cases e; rfl
end
/-- The two copies while they are being made. -/
structure KS (wr W : World) (c d : Bool) (B C : Nat) (x y x' y' : Value) : Prop where
  low : Below wr.heap.size wr W
  hb : c = true → Blk 28 W B [x, y] ∧ wr.heap.size ≤ B
  hc : d = true → Blk 32 W C [x', y'] ∧ wr.heap.size ≤ C
section
variable {wr W : World} {B C : Nat} {c d : Bool} {x y x' y' : Value}
theorem KS.e2 (h : KS wr W c d B C x y x' y') : ∃ B' W', W.heap.size = B' ∧ W.alloc (.cells #[.pointer none, .int .i64 0] 28) = W' ∧ KS wr W' true d B' C (.pointer none) (.int .i64 0) x' y' := by
  have hn := new_below W (.cells #[.pointer none, .int .i64 0] 28)
  exact ⟨_, _, rfl, rfl, below_step h.low hn, fun _ => ⟨Blk.new (l := [.pointer none, .int .i64 0]), h.low.size⟩, fun e => ⟨(h.hc e).1.below hn (h.hc e).1.lt, (h.hc e).2⟩⟩
theorem KS.e3 (h : KS wr W c d B C x y x' y') : ∃ C' W', W.heap.size = C' ∧ W.alloc (.cells #[.slice none 0 0, .slice none 0 0] 32) = W' ∧ KS wr W' c true B C' x y (.slice none 0 0) (.slice none 0 0) := by
  have hn := new_below W (.cells #[.slice none 0 0, .slice none 0 0] 32)
  exact ⟨_, _, rfl, rfl, below_step h.low hn, fun e => ⟨(h.hb e).1.below hn (h.hb e).1.lt, (h.hb e).2⟩, fun _ => ⟨Blk.new (l := [.slice none 0 0, .slice none 0 0]), h.low.size⟩⟩
theorem KS.ne (h : KS wr W true true B C x y x' y') : B ≠ C := by
  rintro rfl
  have h1 : W.heap[B]? = _ := (h.hb rfl).1
  rw [show W.heap[B]? = _ from (h.hc rfl).1] at h1
  injection h1 with h1
  injection h1 with _ h1
  exact absurd h1 (by decide)
theorem KS.e4 (h : KS wr W true true B C x y x' y') (u v : Value) : KS wr ((W.setCell ⟨B, 0, none⟩ u).setCell ⟨B, 1, none⟩ v) true true B C u v x' y' :=
  ⟨(h.low.setCell (p := ⟨B, 0, none⟩) (h.hb rfl).2 u).setCell (p := ⟨B, 1, none⟩) (h.hb rfl).2 v, fun _ => ⟨blk_put2 (h.hb rfl).1 u v, (h.hb rfl).2⟩, fun _ => ⟨(h.hc rfl).1.only (only_put2 W B u v) (fun e => h.ne e.symm), (h.hc rfl).2⟩⟩
theorem KS.e5 (h : KS wr W true true B C x y x' y') (u v : Value) : KS wr ((W.setCell ⟨C, 0, none⟩ u).setCell ⟨C, 1, none⟩ v) true true B C x y u v :=
  ⟨(h.low.setCell (p := ⟨C, 0, none⟩) (h.hc rfl).2 u).setCell (p := ⟨C, 1, none⟩) (h.hc rfl).2 v, fun _ => ⟨(h.hb rfl).1.only (only_put2 W C u v) h.ne, (h.hb rfl).2⟩, fun _ => ⟨blk_put2 (h.hc rfl).1 u v, (h.hc rfl).2⟩⟩
theorem KS.done {w1 : World} {T X n na ca nb cb : Nat} {q a b : Option Addr} {o : Nd} {P : List Pr} (hm : MSt w1 wr T X q n o P a na ca b nb cb P) (h : KS wr W true true B C (.pointer q) (.int .i64 (n : Int)) (.slice a na ca) (.slice b nb cb)) : MSt w1 W T X q n o P a na ca b nb cb P ∧ OSt W T X B C q n o P a na ca b nb cb := by
  have h1 := hm.t.box.lt
  have h2 := hm.x.lt
  have h3 := (h.hb rfl).2
  have h4 := (h.hc rfl).2
  have h5 := hm.below h.low
  exact ⟨h5, ⟨(h.hb rfl).1, h5.t.at_⟩, (h.hc rfl).1, h5.r, by omega, by omega, by omega, by omega⟩
end
theorem mst_new (w1 : World) : MSt w1 ((w1.alloc (.cells #[.pointer none, .int .i64 0] 28)).alloc (.cells #[.slice none 0 0, .slice none 0 0] 32)) w1.heap.size (w1.heap.size + 1) none 0 none [] none 0 0 none 0 0 [] := by
  have h1 := bxAt_new (S := S2 w1.heap.size (w1.heap.size + 1)) (W := w1) (n := 0) ndAt_nil
  have b2 := Blk.new (W := w1.alloc (.cells #[.pointer none, .int .i64 0] 28)) (t := 32) (l := [.slice none 0 0, .slice none 0 0])
  rw [World.size_alloc] at b2
  exact ⟨h1.below (new_below _ _), b2, rfAt_nil _ _, below_step (new_below _ _) (new_below _ _), Nat.le_refl _, Nat.le_succ _, by omega⟩
/-- Is a pair there: both ways to say it. -/
theorem has_both (P : List Pr) (x : Pr) : ∃ (hv : Bool) (pv : Int), decide (x ∈ P) = hv ∧ plI P x = pv ∧ decide ((0 : Int) ≤ pv) = hv := by
  by_cases h : x ∈ P
  · obtain ⟨k, hk, _⟩ := plI_some h
    exact ⟨true, _, decide_eq_true h, rfl, by rw [hk]; simp⟩
  · exact ⟨false, _, decide_eq_false h, rfl, by rw [plI_none h]; decide⟩

set_option maxRecDepth 100000 in
set_option maxHeartbeats 32000000 in
theorem plays13 (a0 : Option Addr) (cap : Nat) (D : List Td) (t : ByteArray) (w : World) (ht : DIn w a0 D) :
    Calls Tryz.prog 3 #[.slice a0 D.length cap, .string t] w fun e w' => e = .returned (.bool true) ∧ Below w.heap.size w w' := by
  have HT := Lib.hid ht
  clear ht
  obtain ⟨big, hbig⟩ : ∃ b : Bool, greatZ D = b := ⟨_, rfl⟩
  have HG := Lib.hid hbig
  go_enter Tryz.func3, Tryz.ntmps3
  go_wp2_with fail
  refine (awake13 w).mono ?_
  rintro e w1 ⟨rfl, hb⟩
  have B1 := Lib.hid hb
  have T1 := Lib.hid (HT.out.below hb)
  clear hb HT
  go_wp2_with fail
  refine (great13 a0 cap D w1 T1.out).mono ?_
  rintro e w' ⟨rfl, rfl⟩
  rw [HG.out]
  cases big with
  | true =>
    go_wp2
    go_ret
    exact ⟨rfl, B1.out⟩
  | false =>
    obtain ⟨hD100, hf100⟩ := small_of hbig
    have HF := Lib.hid hf100
    clear hbig hf100 HG
    by_cases htz : 300 < t.size
    · go_wp2_with fail
      refine (ref_Long_yes t w1 htz).mono ?_
      rintro e w' ⟨rfl, rfl⟩
      go_wp2
      go_ret
      exact ⟨rfl, B1.out⟩
    go_wp2_with fail
    refine (ref_Long_no t w1 (by omega)).mono ?_
    rintro e w' ⟨rfl, rfl⟩
    have hts : t.size ≤ 1048576 := by omega
    go_wp2_with fail
    have S3 := Lib.hid (mst_new w1)
    obtain ⟨T, hT⟩ : ∃ T, w1.heap.size = T := ⟨_, rfl⟩
    obtain ⟨X, hX⟩ : ∃ T, w1.heap.size + 1 = T := ⟨_, rfl⟩
    generalize (w1.alloc (.cells #[.pointer none, .int .i64 0] 28)).alloc (.cells #[.slice none 0 0, .slice none 0 0] 32) = w3 at S3 ⊢
    rw [hX, hT] at S3 ⊢
    clear hT hX
    go_loopg [7] D.length (fun g i wr => ∃ (k : Nat) (q : Option Addr) (n : Nat) (o : Nd) (P : List Pr) (a : Option Addr) (na ca : Nat) (b : Option Addr) (nb cb : Nat), k + g = D.length ∧ i = .int .i64 k ∧ P.length ≤ k ∧ Hid (MSt w1 wr T X q n o P a na ca b nb cb P))
    case atStart => exact ⟨0, _, _, _, _, _, _, _, _, _, _, by omega, rfl, by simp, S3⟩
    case round =>
      obtain ⟨k, q, n, o, P, a, na, ca, b, nb, cb, hk, rfl, hlen, ST⟩ := hrel
      have hkL : k ≤ D.length := by omega
      clear S3
      by_cases hlt : k < D.length
      · obtain ⟨bd, off, rfl, hb, hx⟩ := T1.out.2.at k hlt
        have hfs : D[k].f.size ≤ 100 := HF.out _ (List.getElem_mem hlt)
        have hP : P.length ≤ 110 := by omega
        have hP2 : P.length + 1 ≤ k + 1 := by omega
        generalize D[k] = p at hx hfs
        obtain ⟨dr, df, ds⟩ := p
        have HX0 : Hid (∀ W, Below w1.heap.size w1 W → W.cell? ⟨bd, off + k * 3, none⟩ = some (.bool dr)) := Lib.hid fun W hW => (hW.cell (p := ⟨bd, off + k * 3, none⟩) hb).trans (hx 0 _ rfl)
        have HX : Hid (∀ W, Below w1.heap.size w1 W → W.cell? ⟨bd, off + k * 3 + 1, none⟩ = some (.string df) ∧ W.cell? ⟨bd, off + k * 3 + 2, none⟩ = some (.int .i64 ds)) := Lib.hid fun W hW =>
          ⟨(hW.cell (p := ⟨bd, off + k * 3 + 1, none⟩) hb).trans (hx 1 _ rfl), (hW.cell (p := ⟨bd, off + k * 3 + 2, none⟩) hb).trans (hx 2 _ rfl)⟩
        have hlt2 : (k : Int) < (D.length : Int) := by omega
        clear hx hb
        dsimp only at *
        obtain ⟨fk, rfl⟩ : ∃ fk : Key, df = ⟨fk.toArray⟩ := ⟨df.data.toList, by simp⟩
        have hfk : fk.length ≤ 1048576 := by simp [ByteArray.size] at hfs; omega
        have hfs2 : (⟨fk.toArray⟩ : ByteArray).size ≤ 1048576 := by omega
        go_upto_region 10 with fail
        go_cut [8, 9] from 27 to 28 (fun u8 u9 wx => ∃ B C : Nat, u8 = .pointer (some ⟨B, 0, none⟩) ∧ u9 = .pointer (some ⟨C, 0, none⟩) ∧ Hid (MSt w1 wx T X q n o P a na ca b nb cb P ∧ OSt wx T X B C q n o P a na ca b nb cb))
        case first =>
          have HST := Lib.hid ST.out
          have HTX : Hid (∀ W, Below wr.heap.size wr W → (W.cell? ⟨T, 0, none⟩ = some (.pointer q) ∧ W.cell? ⟨T, 1, none⟩ = some (.int .i64 (n : Int))) ∧ W.cell? ⟨X, 0, none⟩ = some (.slice a na ca) ∧ W.cell? ⟨X, 1, none⟩ = some (.slice b nb cb)) := Lib.hid fun W hW =>
            ⟨⟨(ST.out.below hW).t.box.at (o := 0) rfl, (ST.out.below hW).t.box.at (o := 1) rfl⟩, (ST.out.below hW).x.at (o := 0) rfl, (ST.out.below hW).x.at (o := 1) rfl⟩
          obtain ⟨B, C, x, y, x', y', hks⟩ : ∃ (B C : Nat) (x y x' y' : Value), KS wr wr.drew false false B C x y x' y' := ⟨0, 0, undef, undef, undef, undef, (Below.refl _ _).drew, fun e => by simp at e, fun e => by simp at e⟩
          clear ST
          refine wp_region_noPanic ?_
          refine wp_region_held_drew (S := (fun w' => (w'.cell? ⟨T, 0, none⟩ = some (.pointer q) ∧ w'.cell? ⟨T, 1, none⟩ = some (.int .i64 (n : Int))) ∧ w'.cell? ⟨X, 0, none⟩ = some (.slice a na ca) ∧ w'.cell? ⟨X, 1, none⟩ = some (.slice b nb cb))) (by kernel_rfl) ?_ (fun hHeld => ?_)
          · exact HTX.out _ hks.low
          generalize wr.drew = wD at *
          refine wpAnyH_take (i := 0) (oi := ⟨some 27, _, _, _, _, _⟩) (v := ?_) rfl (by kernel_rfl) (by kernel_rfl) (by kernel_rfl) (fun _ _ _ h => h) (Or.inl ⟨by rfl, ?_⟩) (by assumption) ?_
          rotate_left
          · (intro w hSw; (try dsimp only at hSw); go_simp; try with_reducible rfl)
          try simp only [Act.put, List.setIfInBounds_toArray, List.set_cons_zero, List.set_cons_succ]
          refine wpAnyH_take (i := 1) (oi := ⟨some 28, _, _, _, _, _⟩) (v := ?_) rfl (by kernel_rfl) (by kernel_rfl) (by kernel_rfl) (fun _ _ _ h => h) (Or.inl ⟨by rfl, ?_⟩) (by assumption) ?_
          rotate_left
          · (intro w hSw; (try dsimp only at hSw); go_simp; try with_reducible rfl)
          try simp only [Act.put, List.setIfInBounds_toArray, List.set_cons_zero, List.set_cons_succ]
          refine wpAnyH_ready (rs := [2, 3]) (by kernel_rfl) (by simp) ?_
          refine AllReadyH.cons (o := ⟨some 8, _, _, _, _, _⟩) rfl (fun K hK => ?_) (AllReadyH.cons (o := ⟨some 9, _, _, _, _, _⟩) rfl (fun K hK => ?_) AllReadyH.nil)
          · go_simp
            obtain ⟨B2, W2, e1, e2, hks2⟩ := hks.e2
            rw [e1, e2]
            clear e1 e2 hks
            have hks := hks2
            clear hks2
            refine hK.out _ _ ?_ (fun hHeldX => ?_)
            · exact HTX.out _ hks.low
            clear hK K hHeld
            rename _ => hHeld
            try simp only [Act.put, List.setIfInBounds_toArray, List.set_cons_zero, List.set_cons_succ]
            refine wpAnyH_ready (rs := [3]) (by kernel_rfl) (by simp) ?_
            refine AllReadyH.cons (o := ⟨some 9, _, _, _, _, _⟩) rfl (fun K hK => ?_) AllReadyH.nil
            go_simp
            obtain ⟨C2, W2, e1, e2, hks2⟩ := hks.e3
            rw [e1, e2]
            clear e1 e2 hks
            have hks := hks2
            clear hks2
            refine hK.out _ _ ?_ (fun hHeldX => ?_)
            · exact HTX.out _ hks.low
            clear hK K hHeld
            rename _ => hHeld
            try simp only [Act.put, List.setIfInBounds_toArray, List.set_cons_zero, List.set_cons_succ]
            refine wpAnyH_ready (rs := [4]) (by kernel_rfl) (by simp) ?_
            refine AllReadyH.cons (o := ⟨none, _, _, _, _, _⟩) rfl (fun K hK => ?_) AllReadyH.nil
            have cX := (hks.hb rfl).1.at (o := 0) rfl
            have cY := (hks.hb rfl).1.at (o := 1) rfl
            have fX := (hks.hb rfl).1.frozen 0
            have fY := (hks.hb rfl).1.frozen 1
            go_simp
            clear cX cY fX fY
            replace hks := hks.e4 (.pointer q) (.int .i64 (n : Int))
            generalize (World.setCell (World.setCell _ _ _) _ _) = W4 at *
            refine hK.out _ _ ?_ (fun hHeldX => ?_)
            · exact HTX.out _ hks.low
            clear hK K hHeld
            rename _ => hHeld
            try simp only [Act.put, List.setIfInBounds_toArray, List.set_cons_zero, List.set_cons_succ]
            refine wpAnyH_ready (rs := [5]) (by kernel_rfl) (by simp) ?_
            refine AllReadyH.cons (o := ⟨none, _, _, _, _, _⟩) rfl (fun K hK => ?_) AllReadyH.nil
            have cX := (hks.hc rfl).1.at (o := 0) rfl
            have cY := (hks.hc rfl).1.at (o := 1) rfl
            have fX := (hks.hc rfl).1.frozen 0
            have fY := (hks.hc rfl).1.frozen 1
            go_simp
            clear cX cY fX fY
            replace hks := hks.e5 (.slice a na ca) (.slice b nb cb)
            generalize (World.setCell (World.setCell _ _ _) _ _) = W5 at *
            refine hK.out _ _ ?_ (fun hHeldX => ?_)
            · exact HTX.out _ hks.low
            clear hK K hHeld
            rename _ => hHeld
            try simp only [Act.put, List.setIfInBounds_toArray, List.set_cons_zero, List.set_cons_succ]
            refine wpAnyH_done (by kernel_rfl) ?_ _
            refine NoPanic.normal ?_
            have HKS := Lib.hid hks
            clear hks hHeld
            go_wp2_with fail
            go_meet
            case rel => exact ⟨_, _, rfl, rfl, Lib.hid (KS.done HST.out HKS.out)⟩
          · go_simp
            obtain ⟨C2, W2, e1, e2, hks2⟩ := hks.e3
            rw [e1, e2]
            clear e1 e2 hks
            have hks := hks2
            clear hks2
            refine hK.out _ _ ?_ (fun hHeldX => ?_)
            · exact HTX.out _ hks.low
            clear hK K hHeld
            rename _ => hHeld
            try simp only [Act.put, List.setIfInBounds_toArray, List.set_cons_zero, List.set_cons_succ]
            refine wpAnyH_ready (rs := [2]) (by kernel_rfl) (by simp) ?_
            refine AllReadyH.cons (o := ⟨some 8, _, _, _, _, _⟩) rfl (fun K hK => ?_) AllReadyH.nil
            go_simp
            obtain ⟨B2, W2, e1, e2, hks2⟩ := hks.e2
            rw [e1, e2]
            clear e1 e2 hks
            have hks := hks2
            clear hks2
            refine hK.out _ _ ?_ (fun hHeldX => ?_)
            · exact HTX.out _ hks.low
            clear hK K hHeld
            rename _ => hHeld
            try simp only [Act.put, List.setIfInBounds_toArray, List.set_cons_zero, List.set_cons_succ]
            refine wpAnyH_ready (rs := [4]) (by kernel_rfl) (by simp) ?_
            refine AllReadyH.cons (o := ⟨none, _, _, _, _, _⟩) rfl (fun K hK => ?_) AllReadyH.nil
            have cX := (hks.hb rfl).1.at (o := 0) rfl
            have cY := (hks.hb rfl).1.at (o := 1) rfl
            have fX := (hks.hb rfl).1.frozen 0
            have fY := (hks.hb rfl).1.frozen 1
            go_simp
            clear cX cY fX fY
            replace hks := hks.e4 (.pointer q) (.int .i64 (n : Int))
            generalize (World.setCell (World.setCell _ _ _) _ _) = W4 at *
            refine hK.out _ _ ?_ (fun hHeldX => ?_)
            · exact HTX.out _ hks.low
            clear hK K hHeld
            rename _ => hHeld
            try simp only [Act.put, List.setIfInBounds_toArray, List.set_cons_zero, List.set_cons_succ]
            refine wpAnyH_ready (rs := [5]) (by kernel_rfl) (by simp) ?_
            refine AllReadyH.cons (o := ⟨none, _, _, _, _, _⟩) rfl (fun K hK => ?_) AllReadyH.nil
            have cX := (hks.hc rfl).1.at (o := 0) rfl
            have cY := (hks.hc rfl).1.at (o := 1) rfl
            have fX := (hks.hc rfl).1.frozen 0
            have fY := (hks.hc rfl).1.frozen 1
            go_simp
            clear cX cY fX fY
            replace hks := hks.e5 (.slice a na ca) (.slice b nb cb)
            generalize (World.setCell (World.setCell _ _ _) _ _) = W5 at *
            refine hK.out _ _ ?_ (fun hHeldX => ?_)
            · exact HTX.out _ hks.low
            clear hK K hHeld
            rename _ => hHeld
            try simp only [Act.put, List.setIfInBounds_toArray, List.set_cons_zero, List.set_cons_succ]
            refine wpAnyH_done (by kernel_rfl) ?_ _
            refine NoPanic.normal ?_
            have HKS := Lib.hid hks
            clear hks hHeld
            go_wp2_with fail
            go_meet
            case rel => exact ⟨_, _, rfl, rfl, Lib.hid (KS.done HST.out HKS.out)⟩
        case rest =>
          obtain ⟨B, C, rfl, rfl, HC⟩ := hcut
          have HXw := HX0.out wc HC.out.1.low
          have HND := Lib.hid HC.out.1.t.at_.ok.nodup
          cases dr with
          | true =>
            obtain ⟨ev, P', hl', HA, HRa⟩ : ∃ (ev : Int) (P' : List Pr), P'.length ≤ P.length + 1 ∧ Hid (∀ W, NdAt (S2 T X) W q n o P → (∀ j, W.heap.size ≤ j → ¬ S2 T X j) → Calls Tryz.prog 7 #[.agg #[.pointer q, .int .i64 (n : Int)], .string ⟨fk.toArray⟩, .int .i64 ds] W fun e w' => ∃ (q' : Option Addr) (n' : Nat) (o' : Nd), e = .returned (.tuple #[.agg #[.pointer q', .int .i64 (n' : Int)], .int .i64 ev]) ∧ NdAt (S2 T X) w' q' n' o' P' ∧ Below W.heap.size W w') ∧
                Hid (∀ W v, RfAt (S2 T X) W v P → (∀ j, W.heap.size ≤ j → ¬ S2 T X j) → Calls Tryz.prog 8 #[v, keyV fk, .int .i64 ds] W fun e w' => ∃ r, e = .returned (.tuple #[r, .int .i64 ev]) ∧ RfAt (S2 T X) w' r P' ∧ Below W.heap.size W w') :=
              ⟨dropK P fk ds, dropZ P fk ds, dropZ_len _ _ _, Lib.hid fun W hn hf => (hn.drop hf hP ⟨fk.toArray⟩ ds).mono fun e w' ⟨q', n', o', h1, h2, _, h3⟩ => ⟨q', n', o', h1, h2, h3⟩, Lib.hid fun W v hr hf => rf_Drop v P fk ds W hf hr (by omega) HND.out hfk⟩
            have hP3 : P'.length ≤ 110 := by omega
            have hP4 : P'.length ≤ k + 1 := by omega
            clear HX0
            go_upto_region 14 with fail
            clear HXw
            have hst := And.intro (HC.out.1.below (W := wc.drew) (Below.refl _ _).drew) (HC.out.2.below (W := wc.drew) (Below.refl _ _).drew)
            clear HC
            refine wp_region_noPanic ?_
            refine wp_region_held_drew (S := (fun w' => w'.cell? ⟨bd, off + k * 3 + 1, none⟩ = some (.string ⟨fk.toArray⟩) ∧ w'.cell? ⟨bd, off + k * 3 + 2, none⟩ = some (.int .i64 ds))) (by kernel_rfl) ?_ (fun hHeld => ?_)
            · exact HX.out _ hst.1.low
            refine wpAnyH_take (i := 1) (oi := ⟨some 36, _, _, _, _, _⟩) (v := ?_) rfl (by kernel_rfl) (by kernel_rfl) (by kernel_rfl) (fun _ _ _ h => h) (Or.inl ⟨by rfl, ?_⟩) (by assumption) ?_
            rotate_left
            · (intro w hSw; (try dsimp only at hSw); go_simp; try with_reducible rfl)
            try simp only [Act.put, List.setIfInBounds_toArray, List.set_cons_zero, List.set_cons_succ]
            refine wpAnyH_take (i := 2) (oi := ⟨some 37, _, _, _, _, _⟩) (v := ?_) rfl (by kernel_rfl) (by kernel_rfl) (by kernel_rfl) (fun _ _ _ h => h) (Or.inl ⟨by rfl, ?_⟩) (by assumption) ?_
            rotate_left
            · (intro w hSw; (try dsimp only at hSw); go_simp; try with_reducible rfl)
            try simp only [Act.put, List.setIfInBounds_toArray, List.set_cons_zero, List.set_cons_succ]
            refine wpAnyH_take (i := 3) (oi := ⟨some 38, _, _, _, _, _⟩) (v := ?_) rfl (by kernel_rfl) (by kernel_rfl) (by kernel_rfl) (fun _ _ _ h => h) (Or.inl ⟨by rfl, ?_⟩) (by assumption) ?_
            rotate_left
            · (intro w hSw; (try dsimp only at hSw); go_simp; try with_reducible rfl)
            try simp only [Act.put, List.setIfInBounds_toArray, List.set_cons_zero, List.set_cons_succ]
            refine wpAnyH_take (i := 4) (oi := ⟨some 39, _, _, _, _, _⟩) (v := ?_) rfl (by kernel_rfl) (by kernel_rfl) (by kernel_rfl) (fun _ _ _ h => h) (Or.inl ⟨by rfl, ?_⟩) (by assumption) ?_
            rotate_left
            · (intro w hSw; (try dsimp only at hSw); go_simp; try with_reducible rfl)
            try simp only [Act.put, List.setIfInBounds_toArray, List.set_cons_zero, List.set_cons_succ]
            refine wpAnyH_take (i := 5) (oi := ⟨some 40, _, _, _, _, _⟩) (v := ?_) rfl (by kernel_rfl) (by kernel_rfl) (by kernel_rfl) (fun _ _ _ h => h) (Or.inl ⟨by rfl, ?_⟩) (by assumption) ?_
            rotate_left
            · (intro w hSw; (try dsimp only at hSw); go_simp; try with_reducible rfl)
            try simp only [Act.put, List.setIfInBounds_toArray, List.set_cons_zero, List.set_cons_succ]
            refine wpAnyH_take (i := 6) (oi := ⟨some 41, _, _, _, _, _⟩) (v := ?_) rfl (by kernel_rfl) (by kernel_rfl) (by kernel_rfl) (fun _ _ _ h => h) (Or.inl ⟨by rfl, ?_⟩) (by assumption) ?_
            rotate_left
            · (intro w hSw; (try dsimp only at hSw); go_simp; try with_reducible rfl)
            try simp only [Act.put, List.setIfInBounds_toArray, List.set_cons_zero, List.set_cons_succ]
            refine wpAnyH_take (i := 7) (oi := ⟨some 42, _, _, _, _, _⟩) (v := ?_) rfl (by kernel_rfl) (by kernel_rfl) (by kernel_rfl) (fun _ _ _ h => h) (Or.inl ⟨by rfl, ?_⟩) (by assumption) ?_
            rotate_left
            · (intro w hSw; (try dsimp only at hSw); go_simp; try with_reducible rfl)
            try simp only [Act.put, List.setIfInBounds_toArray, List.set_cons_zero, List.set_cons_succ]
            refine wpAnyH_take (i := 8) (oi := ⟨some 43, _, _, _, _, _⟩) (v := ?_) rfl (by kernel_rfl) (by kernel_rfl) (by kernel_rfl) (fun _ _ _ h => h) (Or.inl ⟨by rfl, ?_⟩) (by assumption) ?_
            rotate_left
            · (intro w hSw; (try dsimp only at hSw); go_simp; try with_reducible rfl)
            try simp only [Act.put, List.setIfInBounds_toArray, List.set_cons_zero, List.set_cons_succ]
            refine wpAnyH_take (i := 9) (oi := ⟨some 44, _, _, _, _, _⟩) (v := ?_) rfl (by kernel_rfl) (by kernel_rfl) (by kernel_rfl) (fun _ _ _ h => h) (Or.inl ⟨by rfl, ?_⟩) (by assumption) ?_
            rotate_left
            · (intro w hSw; (try dsimp only at hSw); go_simp; try with_reducible rfl)
            try simp only [Act.put, List.setIfInBounds_toArray, List.set_cons_zero, List.set_cons_succ]
            refine wpAnyH_take (i := 10) (oi := ⟨some 45, _, _, _, _, _⟩) (v := ?_) rfl (by kernel_rfl) (by kernel_rfl) (by kernel_rfl) (fun _ _ _ h => h) (Or.inl ⟨by rfl, ?_⟩) (by assumption) ?_
            rotate_left
            · (intro w hSw; (try dsimp only at hSw); go_simp; try with_reducible rfl)
            try simp only [Act.put, List.setIfInBounds_toArray, List.set_cons_zero, List.set_cons_succ]
            refine wpAnyH_ready (rs := [0]) (by kernel_rfl) (by simp) ?_
            refine AllReadyH.cons (o := ⟨some 35, _, _, _, _, _⟩) rfl (fun K hK => ?_) AllReadyH.nil
            have cX := hst.1.t.box.at (o := 0) rfl
            have cY := hst.1.t.box.at (o := 1) rfl
            go_simp
            clear cX cY
            refine hK.out _ _ ?_ (fun hHeldX => ?_)
            · exact HX.out _ hst.1.low
            clear hK K hHeld
            rename _ => hHeld
            try simp only [Act.put, List.setIfInBounds_toArray, List.set_cons_zero, List.set_cons_succ]
            refine wpAnyH_ready (rs := [11]) (by kernel_rfl) (by simp) ?_
            refine AllReadyH.cons (o := ⟨some 46, _, _, _, _, _⟩) rfl (fun K hK => ?_) AllReadyH.nil
            go_simp
            refine (HA.out _ hst.1.t.at_ hst.1.fresh).mono ?_
            rintro e wx ⟨q', n', o', rfl, hnd, hBx⟩
            replace hst := And.intro (hst.1.below hBx) (hst.2.below hBx)
            have HN := Lib.hid hnd
            clear hnd hBx
            go_wp2_with fail
            refine hK.out _ _ ?_ (fun hHeldX => ?_)
            · exact HX.out _ hst.1.low
            clear hK K hHeld
            rename _ => hHeld
            try simp only [Act.put, List.setIfInBounds_toArray, List.set_cons_zero, List.set_cons_succ]
            refine wpAnyH_take (i := 12) (oi := ⟨some 34, _, _, _, _, _⟩) (v := ?_) rfl (by kernel_rfl) (by kernel_rfl) (by kernel_rfl) (fun _ _ _ h => h) (Or.inl ⟨by rfl, ?_⟩) (by assumption) ?_
            rotate_left
            · (intro w hSw; (try dsimp only at hSw); go_simp; try with_reducible rfl)
            try simp only [Act.put, List.setIfInBounds_toArray, List.set_cons_zero, List.set_cons_succ]
            refine wpAnyH_take (i := 13) (oi := ⟨some 47, _, _, _, _, _⟩) (v := ?_) rfl (by kernel_rfl) (by kernel_rfl) (by kernel_rfl) (fun _ _ _ h => h) (Or.inl ⟨by rfl, ?_⟩) (by assumption) ?_
            rotate_left
            · (intro w hSw; (try dsimp only at hSw); go_simp; try with_reducible rfl)
            try simp only [Act.put, List.setIfInBounds_toArray, List.set_cons_zero, List.set_cons_succ]
            refine wpAnyH_take (i := 14) (oi := ⟨some 48, _, _, _, _, _⟩) (v := ?_) rfl (by kernel_rfl) (by kernel_rfl) (by kernel_rfl) (fun _ _ _ h => h) (Or.inl ⟨by rfl, ?_⟩) (by assumption) ?_
            rotate_left
            · (intro w hSw; (try dsimp only at hSw); go_simp; try with_reducible rfl)
            try simp only [Act.put, List.setIfInBounds_toArray, List.set_cons_zero, List.set_cons_succ]
            refine wpAnyH_ready (rs := [15]) (by kernel_rfl) (by simp) ?_
            refine AllReadyH.cons (o := ⟨none, _, _, _, _, _⟩) rfl (fun K hK => ?_) AllReadyH.nil
            have cX := hst.1.t.box.at (o := 0) rfl
            have cY := hst.1.t.box.at (o := 1) rfl
            have fX := hst.1.t.box.frozen 0
            have fY := hst.1.t.box.frozen 1
            go_simp
            clear cX cY fX fY
            refine hK.out _ _ ?_ (fun hHeldX => ?_)
            · exact HX.out _ ((hst.1.low.setCell (p := ⟨T, 0, none⟩) hst.1.lT _).setCell (p := ⟨T, 1, none⟩) hst.1.lT _)
            clear hK K hHeld
            rename _ => hHeld
            try simp only [Act.put, List.setIfInBounds_toArray, List.set_cons_zero, List.set_cons_succ]
            refine wpAnyH_take (i := 16) (oi := ⟨some 10, _, _, _, _, _⟩) (v := ?_) rfl (by kernel_rfl) (by kernel_rfl) (by kernel_rfl) (fun _ _ _ h => h) (Or.inl ⟨by rfl, ?_⟩) (by assumption) ?_
            rotate_left
            · (intro w hSw; (try dsimp only at hSw); go_simp; try with_reducible rfl)
            try simp only [Act.put, List.setIfInBounds_toArray, List.set_cons_zero, List.set_cons_succ]
            refine wpAnyH_done (by kernel_rfl) ?_ _
            refine NoPanic.normal ?_
            have HE := Lib.hid (And.intro (hst.1.putT HN.out) (hst.2.putT (.pointer q') (.int .i64 (n' : Int))))
            clear hst hHeld HN
            generalize (World.setCell (World.setCell _ _ _) _ _) = W5 at *
            go_upto_region 15 with fail
            have hst := And.intro (HE.out.1.below (W := W5.drew) (Below.refl _ _).drew) (HE.out.2.below (W := W5.drew) (Below.refl _ _).drew)
            clear HE
            refine wp_region_noPanic ?_
            refine wp_region_held_drew (S := (fun w' => w'.cell? ⟨bd, off + k * 3 + 1, none⟩ = some (.string ⟨fk.toArray⟩) ∧ w'.cell? ⟨bd, off + k * 3 + 2, none⟩ = some (.int .i64 ds))) (by kernel_rfl) ?_ (fun hHeld => ?_)
            · exact HX.out _ hst.1.low
            refine wpAnyH_take (i := 1) (oi := ⟨some 51, _, _, _, _, _⟩) (v := ?_) rfl (by kernel_rfl) (by kernel_rfl) (by kernel_rfl) (fun _ _ _ h => h) (Or.inl ⟨by rfl, ?_⟩) (by assumption) ?_
            rotate_left
            · (intro w hSw; (try dsimp only at hSw); go_simp; try with_reducible rfl)
            try simp only [Act.put, List.setIfInBounds_toArray, List.set_cons_zero, List.set_cons_succ]
            refine wpAnyH_take (i := 2) (oi := ⟨some 52, _, _, _, _, _⟩) (v := ?_) rfl (by kernel_rfl) (by kernel_rfl) (by kernel_rfl) (fun _ _ _ h => h) (Or.inl ⟨by rfl, ?_⟩) (by assumption) ?_
            rotate_left
            · (intro w hSw; (try dsimp only at hSw); go_simp; try with_reducible rfl)
            try simp only [Act.put, List.setIfInBounds_toArray, List.set_cons_zero, List.set_cons_succ]
            refine wpAnyH_take (i := 3) (oi := ⟨some 53, _, _, _, _, _⟩) (v := ?_) rfl (by kernel_rfl) (by kernel_rfl) (by kernel_rfl) (fun _ _ _ h => h) (Or.inl ⟨by rfl, ?_⟩) (by assumption) ?_
            rotate_left
            · (intro w hSw; (try dsimp only at hSw); go_simp; try with_reducible rfl)
            try simp only [Act.put, List.setIfInBounds_toArray, List.set_cons_zero, List.set_cons_succ]
            refine wpAnyH_take (i := 4) (oi := ⟨some 54, _, _, _, _, _⟩) (v := ?_) rfl (by kernel_rfl) (by kernel_rfl) (by kernel_rfl) (fun _ _ _ h => h) (Or.inl ⟨by rfl, ?_⟩) (by assumption) ?_
            rotate_left
            · (intro w hSw; (try dsimp only at hSw); go_simp; try with_reducible rfl)
            try simp only [Act.put, List.setIfInBounds_toArray, List.set_cons_zero, List.set_cons_succ]
            refine wpAnyH_take (i := 5) (oi := ⟨some 55, _, _, _, _, _⟩) (v := ?_) rfl (by kernel_rfl) (by kernel_rfl) (by kernel_rfl) (fun _ _ _ h => h) (Or.inl ⟨by rfl, ?_⟩) (by assumption) ?_
            rotate_left
            · (intro w hSw; (try dsimp only at hSw); go_simp; try with_reducible rfl)
            try simp only [Act.put, List.setIfInBounds_toArray, List.set_cons_zero, List.set_cons_succ]
            refine wpAnyH_take (i := 6) (oi := ⟨some 56, _, _, _, _, _⟩) (v := ?_) rfl (by kernel_rfl) (by kernel_rfl) (by kernel_rfl) (fun _ _ _ h => h) (Or.inl ⟨by rfl, ?_⟩) (by assumption) ?_
            rotate_left
            · (intro w hSw; (try dsimp only at hSw); go_simp; try with_reducible rfl)
            try simp only [Act.put, List.setIfInBounds_toArray, List.set_cons_zero, List.set_cons_succ]
            refine wpAnyH_take (i := 7) (oi := ⟨some 57, _, _, _, _, _⟩) (v := ?_) rfl (by kernel_rfl) (by kernel_rfl) (by kernel_rfl) (fun _ _ _ h => h) (Or.inl ⟨by rfl, ?_⟩) (by assumption) ?_
            rotate_left
            · (intro w hSw; (try dsimp only at hSw); go_simp; try with_reducible rfl)
            try simp only [Act.put, List.setIfInBounds_toArray, List.set_cons_zero, List.set_cons_succ]
            refine wpAnyH_take (i := 8) (oi := ⟨some 58, _, _, _, _, _⟩) (v := ?_) rfl (by kernel_rfl) (by kernel_rfl) (by kernel_rfl) (fun _ _ _ h => h) (Or.inl ⟨by rfl, ?_⟩) (by assumption) ?_
            rotate_left
            · (intro w hSw; (try dsimp only at hSw); go_simp; try with_reducible rfl)
            try simp only [Act.put, List.setIfInBounds_toArray, List.set_cons_zero, List.set_cons_succ]
            refine wpAnyH_take (i := 9) (oi := ⟨some 59, _, _, _, _, _⟩) (v := ?_) rfl (by kernel_rfl) (by kernel_rfl) (by kernel_rfl) (fun _ _ _ h => h) (Or.inl ⟨by rfl, ?_⟩) (by assumption) ?_
            rotate_left
            · (intro w hSw; (try dsimp only at hSw); go_simp; try with_reducible rfl)
            try simp only [Act.put, List.setIfInBounds_toArray, List.set_cons_zero, List.set_cons_succ]
            refine wpAnyH_take (i := 10) (oi := ⟨some 60, _, _, _, _, _⟩) (v := ?_) rfl (by kernel_rfl) (by kernel_rfl) (by kernel_rfl) (fun _ _ _ h => h) (Or.inl ⟨by rfl, ?_⟩) (by assumption) ?_
            rotate_left
            · (intro w hSw; (try dsimp only at hSw); go_simp; try with_reducible rfl)
            try simp only [Act.put, List.setIfInBounds_toArray, List.set_cons_zero, List.set_cons_succ]
            refine wpAnyH_ready (rs := [0]) (by kernel_rfl) (by simp) ?_
            refine AllReadyH.cons (o := ⟨some 50, _, _, _, _, _⟩) rfl (fun K hK => ?_) AllReadyH.nil
            have cX := hst.1.x.at (o := 0) rfl
            have cY := hst.1.x.at (o := 1) rfl
            go_simp
            clear cX cY
            refine hK.out _ _ ?_ (fun hHeldX => ?_)
            · exact HX.out _ hst.1.low
            clear hK K hHeld
            rename _ => hHeld
            try simp only [Act.put, List.setIfInBounds_toArray, List.set_cons_zero, List.set_cons_succ]
            refine wpAnyH_ready (rs := [11]) (by kernel_rfl) (by simp) ?_
            refine AllReadyH.cons (o := ⟨some 61, _, _, _, _, _⟩) rfl (fun K hK => ?_) AllReadyH.nil
            go_simp
            refine (HRa.out _ _ hst.1.r hst.1.fresh).mono ?_
            rintro e wx ⟨r', rfl, hrf, hBx⟩
            replace hst := And.intro (hst.1.below hBx) (hst.2.below hBx)
            have hrf2 := hrf
            obtain ⟨ka', kc', va', vc', rfl, _⟩ := hrf2
            have HR := Lib.hid hrf
            clear hrf hBx
            go_wp2_with fail
            refine hK.out _ _ ?_ (fun hHeldX => ?_)
            · exact HX.out _ hst.1.low
            clear hK K hHeld
            rename _ => hHeld
            try simp only [Act.put, List.setIfInBounds_toArray, List.set_cons_zero, List.set_cons_succ]
            refine wpAnyH_take (i := 12) (oi := ⟨some 49, _, _, _, _, _⟩) (v := ?_) rfl (by kernel_rfl) (by kernel_rfl) (by kernel_rfl) (fun _ _ _ h => h) (Or.inl ⟨by rfl, ?_⟩) (by assumption) ?_
            rotate_left
            · (intro w hSw; (try dsimp only at hSw); go_simp; try with_reducible rfl)
            try simp only [Act.put, List.setIfInBounds_toArray, List.set_cons_zero, List.set_cons_succ]
            refine wpAnyH_take (i := 13) (oi := ⟨some 62, _, _, _, _, _⟩) (v := ?_) rfl (by kernel_rfl) (by kernel_rfl) (by kernel_rfl) (fun _ _ _ h => h) (Or.inl ⟨by rfl, ?_⟩) (by assumption) ?_
            rotate_left
            · (intro w hSw; (try dsimp only at hSw); go_simp; try with_reducible rfl)
            try simp only [Act.put, List.setIfInBounds_toArray, List.set_cons_zero, List.set_cons_succ]
            refine wpAnyH_take (i := 14) (oi := ⟨some 63, _, _, _, _, _⟩) (v := ?_) rfl (by kernel_rfl) (by kernel_rfl) (by kernel_rfl) (fun _ _ _ h => h) (Or.inl ⟨by rfl, ?_⟩) (by assumption) ?_
            rotate_left
            · (intro w hSw; (try dsimp only at hSw); go_simp; try with_reducible rfl)
            try simp only [Act.put, List.setIfInBounds_toArray, List.set_cons_zero, List.set_cons_succ]
            refine wpAnyH_ready (rs := [15]) (by kernel_rfl) (by simp) ?_
            refine AllReadyH.cons (o := ⟨none, _, _, _, _, _⟩) rfl (fun K hK => ?_) AllReadyH.nil
            have cX := hst.1.x.at (o := 0) rfl
            have cY := hst.1.x.at (o := 1) rfl
            have fX := hst.1.x.frozen 0
            have fY := hst.1.x.frozen 1
            go_simp
            clear cX cY fX fY
            refine hK.out _ _ ?_ (fun hHeldX => ?_)
            · exact HX.out _ ((hst.1.low.setCell (p := ⟨X, 0, none⟩) hst.1.lX _).setCell (p := ⟨X, 1, none⟩) hst.1.lX _)
            clear hK K hHeld
            rename _ => hHeld
            try simp only [Act.put, List.setIfInBounds_toArray, List.set_cons_zero, List.set_cons_succ]
            refine wpAnyH_take (i := 16) (oi := ⟨some 11, _, _, _, _, _⟩) (v := ?_) rfl (by kernel_rfl) (by kernel_rfl) (by kernel_rfl) (fun _ _ _ h => h) (Or.inl ⟨by rfl, ?_⟩) (by assumption) ?_
            rotate_left
            · (intro w hSw; (try dsimp only at hSw); go_simp; try with_reducible rfl)
            try simp only [Act.put, List.setIfInBounds_toArray, List.set_cons_zero, List.set_cons_succ]
            refine wpAnyH_done (by kernel_rfl) ?_ _
            refine NoPanic.normal ?_
            have HE := Lib.hid (And.intro (hst.1.putX HR.out) (hst.2.putX (.slice ka' P'.length kc') (.slice va' P'.length vc')))
            clear hst hHeld HR HA HRa
            generalize (World.setCell (World.setCell _ _ _) _ _) = W6 at *
            obtain ⟨hv, pv, hhv, hpl, hpv⟩ := has_both P' (fk, ds)
            have HHV : Hid (decide (((⟨fk.toArray⟩ : ByteArray).data.toList, ds) ∈ P') = hv) := Lib.hid hhv
            have HPV := Lib.hid hpl
            clear hhv hpl
            go_upto_region 18 with fail
            have hst := And.intro (HE.out.1.below (W := W6.drew) (Below.refl _ _).drew) (HE.out.2.below (W := W6.drew) (Below.refl _ _).drew)
            clear HE
            refine wp_region_noPanic ?_
            refine wp_region_held_drew (S := (fun w' => w'.cell? ⟨T, 0, none⟩ = some (.pointer q') ∧ w'.cell? ⟨T, 1, none⟩ = some (.int .i64 (n' : Int)) ∧ w'.cell? ⟨X, 0, none⟩ = some (.slice ka' P'.length kc') ∧ w'.cell? ⟨X, 1, none⟩ = some (.slice va' P'.length vc') ∧ w'.cell? ⟨bd, off + k * 3 + 1, none⟩ = some (.string ⟨fk.toArray⟩) ∧ w'.cell? ⟨bd, off + k * 3 + 2, none⟩ = some (.int .i64 ds))) (by kernel_rfl) ?_ (fun hHeld => ?_)
            · exact ⟨hst.1.t.box.at (o := 0) rfl, hst.1.t.box.at (o := 1) rfl, hst.1.x.at (o := 0) rfl, hst.1.x.at (o := 1) rfl, HX.out _ hst.1.low⟩
            refine wpAnyH_take (i := 0) (oi := ⟨some 94, _, _, _, _, _⟩) (v := ?_) rfl (by kernel_rfl) (by kernel_rfl) (by kernel_rfl) (fun _ _ _ h => h) (Or.inl ⟨by rfl, ?_⟩) (by assumption) ?_
            rotate_left
            · (intro w hSw; (try dsimp only at hSw); go_simp; try with_reducible rfl)
            try simp only [Act.put, List.setIfInBounds_toArray, List.set_cons_zero, List.set_cons_succ]
            refine wpAnyH_take (i := 1) (oi := ⟨some 95, _, _, _, _, _⟩) (v := ?_) rfl (by kernel_rfl) (by kernel_rfl) (by kernel_rfl) (fun _ _ _ h => h) (Or.inl ⟨by rfl, ?_⟩) (by assumption) ?_
            rotate_left
            · (intro w hSw; (try dsimp only at hSw); go_simp; try with_reducible rfl)
            try simp only [Act.put, List.setIfInBounds_toArray, List.set_cons_zero, List.set_cons_succ]
            refine wpAnyH_take (i := 2) (oi := ⟨some 96, _, _, _, _, _⟩) (v := ?_) rfl (by kernel_rfl) (by kernel_rfl) (by kernel_rfl) (fun _ _ _ h => h) (Or.inl ⟨by rfl, ?_⟩) (by assumption) ?_
            rotate_left
            · (intro w hSw; (try dsimp only at hSw); go_simp; try with_reducible rfl)
            try simp only [Act.put, List.setIfInBounds_toArray, List.set_cons_zero, List.set_cons_succ]
            refine wpAnyH_take (i := 3) (oi := ⟨some 97, _, _, _, _, _⟩) (v := ?_) rfl (by kernel_rfl) (by kernel_rfl) (by kernel_rfl) (fun _ _ _ h => h) (Or.inl ⟨by rfl, ?_⟩) (by assumption) ?_
            rotate_left
            · (intro w hSw; (try dsimp only at hSw); go_simp; try with_reducible rfl)
            try simp only [Act.put, List.setIfInBounds_toArray, List.set_cons_zero, List.set_cons_succ]
            refine wpAnyH_take (i := 4) (oi := ⟨some 98, _, _, _, _, _⟩) (v := ?_) rfl (by kernel_rfl) (by kernel_rfl) (by kernel_rfl) (fun _ _ _ h => h) (Or.inl ⟨by rfl, ?_⟩) (by assumption) ?_
            rotate_left
            · (intro w hSw; (try dsimp only at hSw); go_simp; try with_reducible rfl)
            try simp only [Act.put, List.setIfInBounds_toArray, List.set_cons_zero, List.set_cons_succ]
            refine wpAnyH_take (i := 6) (oi := ⟨some 100, _, _, _, _, _⟩) (v := ?_) rfl (by kernel_rfl) (by kernel_rfl) (by kernel_rfl) (fun _ _ _ h => h) (Or.inl ⟨by rfl, ?_⟩) (by assumption) ?_
            rotate_left
            · (intro w hSw; (try dsimp only at hSw); go_simp; try with_reducible rfl)
            try simp only [Act.put, List.setIfInBounds_toArray, List.set_cons_zero, List.set_cons_succ]
            refine wpAnyH_take (i := 7) (oi := ⟨some 101, _, _, _, _, _⟩) (v := ?_) rfl (by kernel_rfl) (by kernel_rfl) (by kernel_rfl) (fun _ _ _ h => h) (Or.inl ⟨by rfl, ?_⟩) (by assumption) ?_
            rotate_left
            · (intro w hSw; (try dsimp only at hSw); go_simp; try with_reducible rfl)
            try simp only [Act.put, List.setIfInBounds_toArray, List.set_cons_zero, List.set_cons_succ]
            refine wpAnyH_take (i := 8) (oi := ⟨some 102, _, _, _, _, _⟩) (v := ?_) rfl (by kernel_rfl) (by kernel_rfl) (by kernel_rfl) (fun _ _ _ h => h) (Or.inl ⟨by rfl, ?_⟩) (by assumption) ?_
            rotate_left
            · (intro w hSw; (try dsimp only at hSw); go_simp; try with_reducible rfl)
            try simp only [Act.put, List.setIfInBounds_toArray, List.set_cons_zero, List.set_cons_succ]
            refine wpAnyH_ready (rs := [5]) (by kernel_rfl) (by simp) ?_
            refine AllReadyH.cons (o := ⟨some 99, _, _, _, _, _⟩) rfl (fun K hK => ?_) AllReadyH.nil
            go_simp
            refine (hst.1.t.at_.len).mono ?_
            rintro e wx ⟨rfl, hBx⟩
            replace hst := And.intro (hst.1.below hBx) (hst.2.below hBx)
            clear hBx
            go_wp2_with fail
            refine hK.out _ _ ?_ (fun hHeldX => ?_)
            · exact ⟨hst.1.t.box.at (o := 0) rfl, hst.1.t.box.at (o := 1) rfl, hst.1.x.at (o := 0) rfl, hst.1.x.at (o := 1) rfl, HX.out _ hst.1.low⟩
            clear hK K hHeld
            rename _ => hHeld
            try simp only [Act.put, List.setIfInBounds_toArray, List.set_cons_zero, List.set_cons_succ]
            refine wpAnyH_take (i := 9) (oi := ⟨some 103, _, _, _, _, _⟩) (v := ?_) rfl (by kernel_rfl) (by kernel_rfl) (by kernel_rfl) (fun _ _ _ h => h) (Or.inl ⟨by rfl, ?_⟩) (by assumption) ?_
            rotate_left
            · (intro w hSw; (try dsimp only at hSw); go_simp; try with_reducible rfl)
            try simp only [Act.put, List.setIfInBounds_toArray, List.set_cons_zero, List.set_cons_succ]
            refine wpAnyH_take (i := 10) (oi := ⟨some 104, _, _, _, _, _⟩) (v := ?_) rfl (by kernel_rfl) (by kernel_rfl) (by kernel_rfl) (fun _ _ _ h => h) (Or.inl ⟨by rfl, ?_⟩) (by assumption) ?_
            rotate_left
            · (intro w hSw; (try dsimp only at hSw); go_simp; try with_reducible rfl)
            try simp only [Act.put, List.setIfInBounds_toArray, List.set_cons_zero, List.set_cons_succ]
            refine wpAnyH_take (i := 11) (oi := ⟨some 105, _, _, _, _, _⟩) (v := ?_) rfl (by kernel_rfl) (by kernel_rfl) (by kernel_rfl) (fun _ _ _ h => h) (Or.inl ⟨by rfl, ?_⟩) (by assumption) ?_
            rotate_left
            · (intro w hSw; (try dsimp only at hSw); go_simp; try with_reducible rfl)
            try simp only [Act.put, List.setIfInBounds_toArray, List.set_cons_zero, List.set_cons_succ]
            refine wpAnyH_take (i := 12) (oi := ⟨some 106, _, _, _, _, _⟩) (v := ?_) rfl (by kernel_rfl) (by kernel_rfl) (by kernel_rfl) (fun _ _ _ h => h) (Or.inl ⟨by rfl, ?_⟩) (by assumption) ?_
            rotate_left
            · (intro w hSw; (try dsimp only at hSw); go_simp; try with_reducible rfl)
            try simp only [Act.put, List.setIfInBounds_toArray, List.set_cons_zero, List.set_cons_succ]
            refine wpAnyH_take (i := 13) (oi := ⟨some 107, _, _, _, _, _⟩) (v := ?_) rfl (by kernel_rfl) (by kernel_rfl) (by kernel_rfl) (fun _ _ _ h => h) (Or.inl ⟨by rfl, ?_⟩) (by assumption) ?_
            rotate_left
            · (intro w hSw; (try dsimp only at hSw); go_simp; try with_reducible rfl)
            try simp only [Act.put, List.setIfInBounds_toArray, List.set_cons_zero, List.set_cons_succ]
            refine wpAnyH_take (i := 14) (oi := ⟨some 108, _, _, _, _, _⟩) (v := ?_) rfl (by kernel_rfl) (by kernel_rfl) (by kernel_rfl) (fun _ _ _ h => h) (Or.inl ⟨by rfl, ?_⟩) (by assumption) ?_
            rotate_left
            · (intro w hSw; (try dsimp only at hSw); go_simp; try with_reducible rfl)
            try simp only [Act.put, List.setIfInBounds_toArray, List.set_cons_zero, List.set_cons_succ]
            refine wpAnyH_take (i := 15) (oi := ⟨some 109, _, _, _, _, _⟩) (v := ?_) rfl (by kernel_rfl) (by kernel_rfl) (by kernel_rfl) (fun _ _ _ h => h) (Or.inl ⟨by rfl, ?_⟩) (by assumption) ?_
            rotate_left
            · (intro w hSw; (try dsimp only at hSw); go_simp; try with_reducible rfl)
            try simp only [Act.put, List.setIfInBounds_toArray, List.set_cons_zero, List.set_cons_succ]
            refine wpAnyH_take (i := 16) (oi := ⟨some 110, _, _, _, _, _⟩) (v := ?_) rfl (by kernel_rfl) (by kernel_rfl) (by kernel_rfl) (fun _ _ _ h => h) (Or.inl ⟨by rfl, ?_⟩) (by assumption) ?_
            rotate_left
            · (intro w hSw; (try dsimp only at hSw); go_simp; try with_reducible rfl)
            try simp only [Act.put, List.setIfInBounds_toArray, List.set_cons_zero, List.set_cons_succ]
            refine wpAnyH_take (i := 17) (oi := ⟨some 111, _, _, _, _, _⟩) (v := ?_) rfl (by kernel_rfl) (by kernel_rfl) (by kernel_rfl) (fun _ _ _ h => h) (Or.inl ⟨by rfl, ?_⟩) (by assumption) ?_
            rotate_left
            · (intro w hSw; (try dsimp only at hSw); go_simp; try with_reducible rfl)
            try simp only [Act.put, List.setIfInBounds_toArray, List.set_cons_zero, List.set_cons_succ]
            refine wpAnyH_take (i := 18) (oi := ⟨some 112, _, _, _, _, _⟩) (v := ?_) rfl (by kernel_rfl) (by kernel_rfl) (by kernel_rfl) (fun _ _ _ h => h) (Or.inl ⟨by rfl, ?_⟩) (by assumption) ?_
            rotate_left
            · (intro w hSw; (try dsimp only at hSw); go_simp; try with_reducible rfl)
            try simp only [Act.put, List.setIfInBounds_toArray, List.set_cons_zero, List.set_cons_succ]
            refine wpAnyH_take (i := 19) (oi := ⟨some 113, _, _, _, _, _⟩) (v := ?_) rfl (by kernel_rfl) (by kernel_rfl) (by kernel_rfl) (fun _ _ _ h => h) (Or.inl ⟨by rfl, ?_⟩) (by assumption) ?_
            rotate_left
            · (intro w hSw; (try dsimp only at hSw); go_simp; try with_reducible rfl)
            try simp only [Act.put, List.setIfInBounds_toArray, List.set_cons_zero, List.set_cons_succ]
            refine wpAnyH_take (i := 20) (oi := ⟨some 114, _, _, _, _, _⟩) (v := ?_) rfl (by kernel_rfl) (by kernel_rfl) (by kernel_rfl) (fun _ _ _ h => h) (Or.inl ⟨by rfl, ?_⟩) (by assumption) ?_
            rotate_left
            · (intro w hSw; (try dsimp only at hSw); go_simp; try with_reducible rfl)
            try simp only [Act.put, List.setIfInBounds_toArray, List.set_cons_zero, List.set_cons_succ]
            refine wpAnyH_take (i := 21) (oi := ⟨some 115, _, _, _, _, _⟩) (v := ?_) rfl (by kernel_rfl) (by kernel_rfl) (by kernel_rfl) (fun _ _ _ h => h) (Or.inl ⟨by rfl, ?_⟩) (by assumption) ?_
            rotate_left
            · (intro w hSw; (try dsimp only at hSw); go_simp; try with_reducible rfl)
            try simp only [Act.put, List.setIfInBounds_toArray, List.set_cons_zero, List.set_cons_succ]
            refine wpAnyH_take (i := 22) (oi := ⟨some 116, _, _, _, _, _⟩) (v := ?_) rfl (by kernel_rfl) (by kernel_rfl) (by kernel_rfl) (fun _ _ _ h => h) (Or.inl ⟨by rfl, ?_⟩) (by assumption) ?_
            rotate_left
            · (intro w hSw; (try dsimp only at hSw); go_simp; try with_reducible rfl)
            try simp only [Act.put, List.setIfInBounds_toArray, List.set_cons_zero, List.set_cons_succ]
            refine wpAnyH_take (i := 24) (oi := ⟨some 118, _, _, _, _, _⟩) (v := ?_) rfl (by kernel_rfl) (by kernel_rfl) (by kernel_rfl) (fun _ _ _ h => h) (Or.inl ⟨by rfl, ?_⟩) (by assumption) ?_
            rotate_left
            · (intro w hSw; (try dsimp only at hSw); go_simp; try with_reducible rfl)
            try simp only [Act.put, List.setIfInBounds_toArray, List.set_cons_zero, List.set_cons_succ]
            refine wpAnyH_take (i := 25) (oi := ⟨some 119, _, _, _, _, _⟩) (v := ?_) rfl (by kernel_rfl) (by kernel_rfl) (by kernel_rfl) (fun _ _ _ h => h) (Or.inl ⟨by rfl, ?_⟩) (by assumption) ?_
            rotate_left
            · (intro w hSw; (try dsimp only at hSw); go_simp; try with_reducible rfl)
            try simp only [Act.put, List.setIfInBounds_toArray, List.set_cons_zero, List.set_cons_succ]
            refine wpAnyH_take (i := 26) (oi := ⟨some 120, _, _, _, _, _⟩) (v := ?_) rfl (by kernel_rfl) (by kernel_rfl) (by kernel_rfl) (fun _ _ _ h => h) (Or.inl ⟨by rfl, ?_⟩) (by assumption) ?_
            rotate_left
            · (intro w hSw; (try dsimp only at hSw); go_simp; try with_reducible rfl)
            try simp only [Act.put, List.setIfInBounds_toArray, List.set_cons_zero, List.set_cons_succ]
            refine wpAnyH_take (i := 27) (oi := ⟨some 121, _, _, _, _, _⟩) (v := ?_) rfl (by kernel_rfl) (by kernel_rfl) (by kernel_rfl) (fun _ _ _ h => h) (Or.inl ⟨by rfl, ?_⟩) (by assumption) ?_
            rotate_left
            · (intro w hSw; (try dsimp only at hSw); go_simp; try with_reducible rfl)
            try simp only [Act.put, List.setIfInBounds_toArray, List.set_cons_zero, List.set_cons_succ]
            refine wpAnyH_take (i := 28) (oi := ⟨some 122, _, _, _, _, _⟩) (v := ?_) rfl (by kernel_rfl) (by kernel_rfl) (by kernel_rfl) (fun _ _ _ h => h) (Or.inl ⟨by rfl, ?_⟩) (by assumption) ?_
            rotate_left
            · (intro w hSw; (try dsimp only at hSw); go_simp; try with_reducible rfl)
            try simp only [Act.put, List.setIfInBounds_toArray, List.set_cons_zero, List.set_cons_succ]
            refine wpAnyH_take (i := 29) (oi := ⟨some 123, _, _, _, _, _⟩) (v := ?_) rfl (by kernel_rfl) (by kernel_rfl) (by kernel_rfl) (fun _ _ _ h => h) (Or.inl ⟨by rfl, ?_⟩) (by assumption) ?_
            rotate_left
            · (intro w hSw; (try dsimp only at hSw); go_simp; try with_reducible rfl)
            try simp only [Act.put, List.setIfInBounds_toArray, List.set_cons_zero, List.set_cons_succ]
            refine wpAnyH_take (i := 30) (oi := ⟨some 124, _, _, _, _, _⟩) (v := ?_) rfl (by kernel_rfl) (by kernel_rfl) (by kernel_rfl) (fun _ _ _ h => h) (Or.inl ⟨by rfl, ?_⟩) (by assumption) ?_
            rotate_left
            · (intro w hSw; (try dsimp only at hSw); go_simp; try with_reducible rfl)
            try simp only [Act.put, List.setIfInBounds_toArray, List.set_cons_zero, List.set_cons_succ]
            refine wpAnyH_take (i := 31) (oi := ⟨some 125, _, _, _, _, _⟩) (v := ?_) rfl (by kernel_rfl) (by kernel_rfl) (by kernel_rfl) (fun _ _ _ h => h) (Or.inl ⟨by rfl, ?_⟩) (by assumption) ?_
            rotate_left
            · (intro w hSw; (try dsimp only at hSw); go_simp; try with_reducible rfl)
            try simp only [Act.put, List.setIfInBounds_toArray, List.set_cons_zero, List.set_cons_succ]
            refine wpAnyH_take (i := 32) (oi := ⟨some 126, _, _, _, _, _⟩) (v := ?_) rfl (by kernel_rfl) (by kernel_rfl) (by kernel_rfl) (fun _ _ _ h => h) (Or.inl ⟨by rfl, ?_⟩) (by assumption) ?_
            rotate_left
            · (intro w hSw; (try dsimp only at hSw); go_simp; try with_reducible rfl)
            try simp only [Act.put, List.setIfInBounds_toArray, List.set_cons_zero, List.set_cons_succ]
            refine wpAnyH_take (i := 33) (oi := ⟨some 127, _, _, _, _, _⟩) (v := ?_) rfl (by kernel_rfl) (by kernel_rfl) (by kernel_rfl) (fun _ _ _ h => h) (Or.inl ⟨by rfl, ?_⟩) (by assumption) ?_
            rotate_left
            · (intro w hSw; (try dsimp only at hSw); go_simp; try with_reducible rfl)
            try simp only [Act.put, List.setIfInBounds_toArray, List.set_cons_zero, List.set_cons_succ]
            refine wpAnyH_take (i := 34) (oi := ⟨some 128, _, _, _, _, _⟩) (v := ?_) rfl (by kernel_rfl) (by kernel_rfl) (by kernel_rfl) (fun _ _ _ h => h) (Or.inl ⟨by rfl, ?_⟩) (by assumption) ?_
            rotate_left
            · (intro w hSw; (try dsimp only at hSw); go_simp; try with_reducible rfl)
            try simp only [Act.put, List.setIfInBounds_toArray, List.set_cons_zero, List.set_cons_succ]
            refine wpAnyH_ready (rs := [23]) (by kernel_rfl) (by simp) ?_
            refine AllReadyH.cons (o := ⟨some 117, _, _, _, _, _⟩) rfl (fun K hK => ?_) AllReadyH.nil
            go_simp
            refine (hst.1.t.at_.hasP hP3 ⟨fk.toArray⟩ ds hfs2).mono ?_
            rintro e wx ⟨rfl, hBx⟩
            replace hst := And.intro (hst.1.below hBx) (hst.2.below hBx)
            rw [HHV.out]
            clear hBx
            go_wp2_with fail
            refine hK.out _ _ ?_ (fun hHeldX => ?_)
            · exact ⟨hst.1.t.box.at (o := 0) rfl, hst.1.t.box.at (o := 1) rfl, hst.1.x.at (o := 0) rfl, hst.1.x.at (o := 1) rfl, HX.out _ hst.1.low⟩
            clear hK K hHeld
            rename _ => hHeld
            try simp only [Act.put, List.setIfInBounds_toArray, List.set_cons_zero, List.set_cons_succ]
            refine wpAnyH_ready (rs := [35]) (by kernel_rfl) (by simp) ?_
            refine AllReadyH.cons (o := ⟨some 129, _, _, _, _, _⟩) rfl (fun K hK => ?_) AllReadyH.nil
            go_simp
            refine (rf_Place _ P' fk ds _ hst.1.r (by omega)).mono ?_
            rintro e wx ⟨rfl, hBx⟩
            replace hst := And.intro (hst.1.below hBx) (hst.2.below hBx)
            rw [HPV.out]
            clear hBx
            go_wp2_with fail
            refine hK.out _ _ ?_ (fun hHeldX => ?_)
            · exact ⟨hst.1.t.box.at (o := 0) rfl, hst.1.t.box.at (o := 1) rfl, hst.1.x.at (o := 0) rfl, hst.1.x.at (o := 1) rfl, HX.out _ hst.1.low⟩
            clear hK K hHeld
            rename _ => hHeld
            try simp only [Act.put, List.setIfInBounds_toArray, List.set_cons_zero, List.set_cons_succ]
            refine wpAnyH_take (i := 36) (oi := ⟨some 130, _, _, _, _, _⟩) (v := ?_) rfl (by kernel_rfl) (by kernel_rfl) (by kernel_rfl) (fun _ _ _ h => h) (Or.inl ⟨by rfl, ?_⟩) (by assumption) ?_
            rotate_left
            · (intro w hSw; (try dsimp only at hSw); go_simp; try with_reducible rfl)
            try simp only [Act.put, List.setIfInBounds_toArray, List.set_cons_zero, List.set_cons_succ]
            refine wpAnyH_take (i := 37) (oi := ⟨some 131, _, _, _, _, _⟩) (v := ?_) rfl (by kernel_rfl) (by kernel_rfl) (by kernel_rfl) (fun _ _ _ h => h) (Or.inl ⟨by rfl, ?_⟩) (by assumption) ?_
            rotate_left
            · (intro w hSw; (try dsimp only at hSw); go_simp; try with_reducible rfl)
            try simp only [Act.put, List.setIfInBounds_toArray, List.set_cons_zero, List.set_cons_succ]
            refine wpAnyH_take (i := 38) (oi := ⟨some 132, _, _, _, _, _⟩) (v := ?_) rfl (by kernel_rfl) (by kernel_rfl) (by kernel_rfl) (fun _ _ _ h => h) (Or.inl ⟨by rfl, ?_⟩) (by assumption) ?_
            rotate_left
            · (intro w hSw; (try dsimp only at hSw); go_simp; try with_reducible rfl)
            try simp only [Act.put, List.setIfInBounds_toArray, List.set_cons_zero, List.set_cons_succ]
            refine wpAnyH_take (i := 39) (oi := ⟨some 133, _, _, _, _, _⟩) (v := ?_) rfl (by kernel_rfl) (by kernel_rfl) (by kernel_rfl) (fun _ _ _ h => h) (Or.inl ⟨by rfl, ?_⟩) (by assumption) ?_
            rotate_left
            · (intro w hSw; (try dsimp only at hSw); go_simp; try with_reducible rfl)
            try simp only [Act.put, List.setIfInBounds_toArray, List.set_cons_zero, List.set_cons_succ]
            refine wpAnyH_take (i := 40) (oi := ⟨some 134, _, _, _, _, _⟩) (v := ?_) rfl (by kernel_rfl) (by kernel_rfl) (by kernel_rfl) (fun _ _ _ h => h) (Or.inl ⟨by rfl, ?_⟩) (by assumption) ?_
            rotate_left
            · (intro w hSw; (try dsimp only at hSw); go_simp; try with_reducible rfl)
            try simp only [Act.put, List.setIfInBounds_toArray, List.set_cons_zero, List.set_cons_succ]
            refine wpAnyH_take (i := 42) (oi := ⟨some 136, _, _, _, _, _⟩) (v := ?_) rfl (by kernel_rfl) (by kernel_rfl) (by kernel_rfl) (fun _ _ _ h => h) (Or.inl ⟨by rfl, ?_⟩) (by assumption) ?_
            rotate_left
            · (intro w hSw; (try dsimp only at hSw); go_simp; try with_reducible rfl)
            try simp only [Act.put, List.setIfInBounds_toArray, List.set_cons_zero, List.set_cons_succ]
            refine wpAnyH_ready (rs := [41]) (by kernel_rfl) (by simp) ?_
            refine AllReadyH.cons (o := ⟨some 135, _, _, _, _, _⟩) rfl (fun K hK => ?_) AllReadyH.nil
            go_simp
            refine (hst.1.t.at_.size hP3).mono ?_
            rintro e wx ⟨rfl, hBx⟩
            replace hst := And.intro (hst.1.below hBx) (hst.2.below hBx)
            clear hBx
            go_wp2_with fail
            refine hK.out _ _ ?_ (fun hHeldX => ?_)
            · exact ⟨hst.1.t.box.at (o := 0) rfl, hst.1.t.box.at (o := 1) rfl, hst.1.x.at (o := 0) rfl, hst.1.x.at (o := 1) rfl, HX.out _ hst.1.low⟩
            clear hK K hHeld
            rename _ => hHeld
            try simp only [Act.put, List.setIfInBounds_toArray, List.set_cons_zero, List.set_cons_succ]
            refine wpAnyH_ready (rs := [43]) (by kernel_rfl) (by simp) ?_
            refine AllReadyH.cons (o := ⟨some 137, _, _, _, _, _⟩) rfl (fun K hK => ?_) AllReadyH.nil
            go_simp
            refine (rf_Size _ P' _ hst.1.r (by omega) hst.1.t.at_.ok.filt).mono ?_
            rintro e wx ⟨n9, rfl, hsz, hBx⟩
            replace hst := And.intro (hst.1.below hBx) (hst.2.below hBx)
            obtain rfl := hsz.eq hst.1.t.at_.ok.size (fun _ => Iff.rfl)
            clear hsz
            clear hBx
            go_wp2_with fail
            refine hK.out _ _ ?_ (fun hHeldX => ?_)
            · exact ⟨hst.1.t.box.at (o := 0) rfl, hst.1.t.box.at (o := 1) rfl, hst.1.x.at (o := 0) rfl, hst.1.x.at (o := 1) rfl, HX.out _ hst.1.low⟩
            clear hK K hHeld
            rename _ => hHeld
            try simp only [Act.put, List.setIfInBounds_toArray, List.set_cons_zero, List.set_cons_succ]
            refine wpAnyH_take (i := 44) (oi := ⟨some 138, _, _, _, _, _⟩) (v := ?_) rfl (by kernel_rfl) (by kernel_rfl) (by kernel_rfl) (fun _ _ _ h => h) (Or.inl ⟨by rfl, ?_⟩) (by assumption) ?_
            rotate_left
            · (intro w hSw; (try dsimp only at hSw); go_simp; try with_reducible rfl)
            try simp only [Act.put, List.setIfInBounds_toArray, List.set_cons_zero, List.set_cons_succ]
            refine wpAnyH_take (i := 45) (oi := ⟨some 139, _, _, _, _, _⟩) (v := ?_) rfl (by kernel_rfl) (by kernel_rfl) (by kernel_rfl) (fun _ _ _ h => h) (Or.inl ⟨by rfl, ?_⟩) (by assumption) ?_
            rotate_left
            · (intro w hSw; (try dsimp only at hSw); go_simp; try with_reducible rfl)
            try simp only [Act.put, List.setIfInBounds_toArray, List.set_cons_zero, List.set_cons_succ]
            refine wpAnyH_take (i := 46) (oi := ⟨some 140, _, _, _, _, _⟩) (v := ?_) rfl (by kernel_rfl) (by kernel_rfl) (by kernel_rfl) (fun _ _ _ h => h) (Or.inl ⟨by rfl, ?_⟩) (by assumption) ?_
            rotate_left
            · (intro w hSw; (try dsimp only at hSw); go_simp; try with_reducible rfl)
            try simp only [Act.put, List.setIfInBounds_toArray, List.set_cons_zero, List.set_cons_succ]
            refine wpAnyH_take (i := 47) (oi := ⟨some 141, _, _, _, _, _⟩) (v := ?_) rfl (by kernel_rfl) (by kernel_rfl) (by kernel_rfl) (fun _ _ _ h => h) (Or.inl ⟨by rfl, ?_⟩) (by assumption) ?_
            rotate_left
            · (intro w hSw; (try dsimp only at hSw); go_simp; try with_reducible rfl)
            try simp only [Act.put, List.setIfInBounds_toArray, List.set_cons_zero, List.set_cons_succ]
            refine wpAnyH_take (i := 48) (oi := ⟨some 142, _, _, _, _, _⟩) (v := ?_) rfl (by kernel_rfl) (by kernel_rfl) (by kernel_rfl) (fun _ _ _ h => h) (Or.inl ⟨by rfl, ?_⟩) (by assumption) ?_
            rotate_left
            · (intro w hSw; (try dsimp only at hSw); go_simp; try with_reducible rfl)
            try simp only [Act.put, List.setIfInBounds_toArray, List.set_cons_zero, List.set_cons_succ]
            refine wpAnyH_take (i := 51) (oi := ⟨some 145, _, _, _, _, _⟩) (v := ?_) rfl (by kernel_rfl) (by kernel_rfl) (by kernel_rfl) (fun _ _ _ h => h) (Or.inl ⟨by rfl, ?_⟩) (by assumption) ?_
            rotate_left
            · (intro w hSw; (try dsimp only at hSw); go_simp; try with_reducible rfl)
            try simp only [Act.put, List.setIfInBounds_toArray, List.set_cons_zero, List.set_cons_succ]
            refine wpAnyH_take (i := 52) (oi := ⟨some 146, _, _, _, _, _⟩) (v := ?_) rfl (by kernel_rfl) (by kernel_rfl) (by kernel_rfl) (fun _ _ _ h => h) (Or.inl ⟨by rfl, ?_⟩) (by assumption) ?_
            rotate_left
            · (intro w hSw; (try dsimp only at hSw); go_simp; try with_reducible rfl)
            try simp only [Act.put, List.setIfInBounds_toArray, List.set_cons_zero, List.set_cons_succ]
            refine wpAnyH_ready (rs := [49]) (by kernel_rfl) (by simp) ?_
            refine AllReadyH.cons (o := ⟨some 143, _, _, _, _, _⟩) rfl (fun K hK => ?_) AllReadyH.nil
            go_simp
            refine (hst.1.t.at_.mat hP3 t).mono ?_
            rintro e wx ⟨r1, rfl, hs1, hBx⟩
            replace hst := And.intro (hst.1.below hBx) (hst.2.below hBx)
            clear hBx
            go_wp2_with fail
            refine hK.out _ _ ?_ (fun hHeldX => ?_)
            · exact ⟨hst.1.t.box.at (o := 0) rfl, hst.1.t.box.at (o := 1) rfl, hst.1.x.at (o := 0) rfl, hst.1.x.at (o := 1) rfl, HX.out _ hst.1.low⟩
            clear hK K hHeld
            rename _ => hHeld
            try simp only [Act.put, List.setIfInBounds_toArray, List.set_cons_zero, List.set_cons_succ]
            refine wpAnyH_ready (rs := [50]) (by kernel_rfl) (by simp) ?_
            refine AllReadyH.cons (o := ⟨some 144, _, _, _, _, _⟩) rfl (fun K hK => ?_) AllReadyH.nil
            go_simp
            refine (list13 r1 _ _ hs1 (by have := mz_len P' t.data.toList; omega)).mono ?_
            rintro e wx ⟨r2, rfl, hn2, hBx⟩
            replace hst := And.intro (hst.1.below hBx) (hst.2.below hBx)
            clear hs1
            clear hBx
            go_wp2_with fail
            refine hK.out _ _ ?_ (fun hHeldX => ?_)
            · exact ⟨hst.1.t.box.at (o := 0) rfl, hst.1.t.box.at (o := 1) rfl, hst.1.x.at (o := 0) rfl, hst.1.x.at (o := 1) rfl, HX.out _ hst.1.low⟩
            clear hK K hHeld
            rename _ => hHeld
            try simp only [Act.put, List.setIfInBounds_toArray, List.set_cons_zero, List.set_cons_succ]
            refine wpAnyH_ready (rs := [53]) (by kernel_rfl) (by simp) ?_
            refine AllReadyH.cons (o := ⟨some 147, _, _, _, _, _⟩) rfl (fun K hK => ?_) AllReadyH.nil
            go_simp
            refine (rf_Match _ P' t _ hst.1.r (by omega) (fun p hp => by have := (bytesOk_len (filterZ_bytes (hst.1.t.at_.ok.filt p hp))).2; omega) hts).mono ?_
            rintro e wx ⟨r3, rfl, hn3, hBx⟩
            replace hst := And.intro (hst.1.below hBx) (hst.2.below hBx)
            replace hn2 := hn2.below hBx
            clear hBx
            go_wp2_with fail
            refine hK.out _ _ ?_ (fun hHeldX => ?_)
            · exact ⟨hst.1.t.box.at (o := 0) rfl, hst.1.t.box.at (o := 1) rfl, hst.1.x.at (o := 0) rfl, hst.1.x.at (o := 1) rfl, HX.out _ hst.1.low⟩
            clear hK K hHeld
            rename _ => hHeld
            try simp only [Act.put, List.setIfInBounds_toArray, List.set_cons_zero, List.set_cons_succ]
            refine wpAnyH_ready (rs := [54]) (by kernel_rfl) (by simp) ?_
            refine AllReadyH.cons (o := ⟨some 148, _, _, _, _, _⟩) rfl (fun K hK => ?_) AllReadyH.nil
            go_simp
            refine (ref_Ints _ _ _ _ _ hn2 hn3 (by have := mz_len P' t.data.toList; omega) (by have := mz_len P' t.data.toList; omega)).mono ?_
            rintro e wx ⟨rfl, hBx⟩
            replace hst := And.intro (hst.1.below hBx) (hst.2.below hBx)
            rw [decide_eq_true rfl]
            clear hn2 hn3
            clear hBx
            go_wp2_with fail
            refine hK.out _ _ ?_ (fun hHeldX => ?_)
            · exact ⟨hst.1.t.box.at (o := 0) rfl, hst.1.t.box.at (o := 1) rfl, hst.1.x.at (o := 0) rfl, hst.1.x.at (o := 1) rfl, HX.out _ hst.1.low⟩
            clear hK K hHeld
            rename _ => hHeld
            try simp only [Act.put, List.setIfInBounds_toArray, List.set_cons_zero, List.set_cons_succ]
            refine wpAnyH_take (i := 55) (oi := ⟨some 149, _, _, _, _, _⟩) (v := ?_) rfl (by kernel_rfl) (by kernel_rfl) (by kernel_rfl) (fun _ _ _ h => h) (Or.inl ⟨by rfl, ?_⟩) (by assumption) ?_
            rotate_left
            · (intro w hSw; (try dsimp only at hSw); go_simp; try with_reducible rfl)
            try simp only [Act.put, List.setIfInBounds_toArray, List.set_cons_zero, List.set_cons_succ]
            refine wpAnyH_take (i := 56) (oi := ⟨some 150, _, _, _, _, _⟩) (v := ?_) rfl (by kernel_rfl) (by kernel_rfl) (by kernel_rfl) (fun _ _ _ h => h) (Or.inl ⟨by rfl, ?_⟩) (by assumption) ?_
            rotate_left
            · (intro w hSw; (try dsimp only at hSw); go_simp; try with_reducible rfl)
            try simp only [Act.put, List.setIfInBounds_toArray, List.set_cons_zero, List.set_cons_succ]
            refine wpAnyH_done (by kernel_rfl) ?_ _
            refine NoPanic.normal ?_
            have HE18 := Lib.hid hst
            have HNA : Hid (na = P.length) := Lib.hid hst.2.lens
            clear hst hHeld HHV HPV hpv
            go_upto_region 20 with fail
            have hst := And.intro (HE18.out.1.below (W := wx.drew) (Below.refl _ _).drew) (HE18.out.2.below (W := wx.drew) (Below.refl _ _).drew)
            clear HE18
            refine wp_region_noPanic ?_
            refine wp_region_held_drew (S := (fun w' => w'.cell? ⟨B, 0, none⟩ = some (.pointer q) ∧ w'.cell? ⟨B, 1, none⟩ = some (.int .i64 (n : Int)) ∧ w'.cell? ⟨C, 0, none⟩ = some (.slice a na ca) ∧ w'.cell? ⟨C, 1, none⟩ = some (.slice b nb cb))) (by kernel_rfl) ?_ (fun hHeld => ?_)
            · exact ⟨hst.2.t.box.at (o := 0) rfl, hst.2.t.box.at (o := 1) rfl, hst.2.x.at (o := 0) rfl, hst.2.x.at (o := 1) rfl⟩
            refine wpAnyH_take (i := 0) (oi := ⟨some 151, _, _, _, _, _⟩) (v := ?_) rfl (by kernel_rfl) (by kernel_rfl) (by kernel_rfl) (fun _ _ _ h => h) (Or.inl ⟨by rfl, ?_⟩) (by assumption) ?_
            rotate_left
            · (intro w hSw; (try dsimp only at hSw); go_simp; try with_reducible rfl)
            try simp only [Act.put, List.setIfInBounds_toArray, List.set_cons_zero, List.set_cons_succ]
            refine wpAnyH_take (i := 2) (oi := ⟨some 153, _, _, _, _, _⟩) (v := ?_) rfl (by kernel_rfl) (by kernel_rfl) (by kernel_rfl) (fun _ _ _ h => h) (Or.inl ⟨by rfl, ?_⟩) (by assumption) ?_
            rotate_left
            · (intro w hSw; (try dsimp only at hSw); go_simp; try with_reducible rfl)
            try simp only [Act.put, List.setIfInBounds_toArray, List.set_cons_zero, List.set_cons_succ]
            refine wpAnyH_take (i := 3) (oi := ⟨some 154, _, _, _, _, _⟩) (v := ?_) rfl (by kernel_rfl) (by kernel_rfl) (by kernel_rfl) (fun _ _ _ h => h) (Or.inl ⟨by rfl, ?_⟩) (by assumption) ?_
            rotate_left
            · (intro w hSw; (try dsimp only at hSw); go_simp; try with_reducible rfl)
            try simp only [Act.put, List.setIfInBounds_toArray, List.set_cons_zero, List.set_cons_succ]
            refine wpAnyH_take (i := 4) (oi := ⟨some 155, _, _, _, _, _⟩) (v := ?_) rfl (by kernel_rfl) (by kernel_rfl) (by kernel_rfl) (fun _ _ _ h => h) (Or.inl ⟨by rfl, ?_⟩) (by assumption) ?_
            rotate_left
            · (intro w hSw; (try dsimp only at hSw); go_simp; try with_reducible rfl)
            try simp only [Act.put, List.setIfInBounds_toArray, List.set_cons_zero, List.set_cons_succ]
            refine wpAnyH_ready (rs := [1]) (by kernel_rfl) (by simp) ?_
            refine AllReadyH.cons (o := ⟨some 152, _, _, _, _, _⟩) rfl (fun K hK => ?_) AllReadyH.nil
            go_simp
            refine (hst.2.t.at_.len).mono ?_
            rintro e wx ⟨rfl, hBx⟩
            replace hst := And.intro (hst.1.below hBx) (hst.2.below hBx)
            rw [← HNA.out]
            clear hBx
            go_wp2_with fail
            refine hK.out _ _ ?_ (fun hHeldX => ?_)
            · exact ⟨hst.2.t.box.at (o := 0) rfl, hst.2.t.box.at (o := 1) rfl, hst.2.x.at (o := 0) rfl, hst.2.x.at (o := 1) rfl⟩
            clear hK K hHeld
            rename _ => hHeld
            try simp only [Act.put, List.setIfInBounds_toArray, List.set_cons_zero, List.set_cons_succ]
            refine wpAnyH_take (i := 5) (oi := ⟨some 156, _, _, _, _, _⟩) (v := ?_) rfl (by kernel_rfl) (by kernel_rfl) (by kernel_rfl) (fun _ _ _ h => h) (Or.inl ⟨by rfl, ?_⟩) (by assumption) ?_
            rotate_left
            · (intro w hSw; (try dsimp only at hSw); go_simp; try with_reducible rfl)
            try simp only [Act.put, List.setIfInBounds_toArray, List.set_cons_zero, List.set_cons_succ]
            refine wpAnyH_take (i := 6) (oi := ⟨some 157, _, _, _, _, _⟩) (v := ?_) rfl (by kernel_rfl) (by kernel_rfl) (by kernel_rfl) (fun _ _ _ h => h) (Or.inl ⟨by rfl, ?_⟩) (by assumption) ?_
            rotate_left
            · (intro w hSw; (try dsimp only at hSw); go_simp; try with_reducible rfl)
            try simp only [Act.put, List.setIfInBounds_toArray, List.set_cons_zero, List.set_cons_succ]
            refine wpAnyH_take (i := 7) (oi := ⟨some 158, _, _, _, _, _⟩) (v := ?_) rfl (by kernel_rfl) (by kernel_rfl) (by kernel_rfl) (fun _ _ _ h => h) (Or.inl ⟨by rfl, ?_⟩) (by assumption) ?_
            rotate_left
            · (intro w hSw; (try dsimp only at hSw); go_simp; try with_reducible rfl)
            try simp only [Act.put, List.setIfInBounds_toArray, List.set_cons_zero, List.set_cons_succ]
            refine wpAnyH_take (i := 9) (oi := ⟨some 160, _, _, _, _, _⟩) (v := ?_) rfl (by kernel_rfl) (by kernel_rfl) (by kernel_rfl) (fun _ _ _ h => h) (Or.inl ⟨by rfl, ?_⟩) (by assumption) ?_
            rotate_left
            · (intro w hSw; (try dsimp only at hSw); go_simp; try with_reducible rfl)
            try simp only [Act.put, List.setIfInBounds_toArray, List.set_cons_zero, List.set_cons_succ]
            refine wpAnyH_ready (rs := [8]) (by kernel_rfl) (by simp) ?_
            refine AllReadyH.cons (o := ⟨some 159, _, _, _, _, _⟩) rfl (fun K hK => ?_) AllReadyH.nil
            go_simp
            refine (hst.2.t.at_.size hP).mono ?_
            rintro e wx ⟨rfl, hBx⟩
            replace hst := And.intro (hst.1.below hBx) (hst.2.below hBx)
            clear hBx
            go_wp2_with fail
            refine hK.out _ _ ?_ (fun hHeldX => ?_)
            · exact ⟨hst.2.t.box.at (o := 0) rfl, hst.2.t.box.at (o := 1) rfl, hst.2.x.at (o := 0) rfl, hst.2.x.at (o := 1) rfl⟩
            clear hK K hHeld
            rename _ => hHeld
            try simp only [Act.put, List.setIfInBounds_toArray, List.set_cons_zero, List.set_cons_succ]
            refine wpAnyH_ready (rs := [10]) (by kernel_rfl) (by simp) ?_
            refine AllReadyH.cons (o := ⟨some 161, _, _, _, _, _⟩) rfl (fun K hK => ?_) AllReadyH.nil
            go_simp
            refine (rf_Size _ P _ hst.2.r (by omega) hst.2.t.at_.ok.filt).mono ?_
            rintro e wx ⟨n9, rfl, hsz, hBx⟩
            replace hst := And.intro (hst.1.below hBx) (hst.2.below hBx)
            obtain rfl := hsz.eq hst.2.t.at_.ok.size (fun _ => Iff.rfl)
            clear hsz
            clear hBx
            go_wp2_with fail
            refine hK.out _ _ ?_ (fun hHeldX => ?_)
            · exact ⟨hst.2.t.box.at (o := 0) rfl, hst.2.t.box.at (o := 1) rfl, hst.2.x.at (o := 0) rfl, hst.2.x.at (o := 1) rfl⟩
            clear hK K hHeld
            rename _ => hHeld
            try simp only [Act.put, List.setIfInBounds_toArray, List.set_cons_zero, List.set_cons_succ]
            refine wpAnyH_take (i := 11) (oi := ⟨some 162, _, _, _, _, _⟩) (v := ?_) rfl (by kernel_rfl) (by kernel_rfl) (by kernel_rfl) (fun _ _ _ h => h) (Or.inl ⟨by rfl, ?_⟩) (by assumption) ?_
            rotate_left
            · (intro w hSw; (try dsimp only at hSw); go_simp; try with_reducible rfl)
            try simp only [Act.put, List.setIfInBounds_toArray, List.set_cons_zero, List.set_cons_succ]
            refine wpAnyH_take (i := 12) (oi := ⟨some 163, _, _, _, _, _⟩) (v := ?_) rfl (by kernel_rfl) (by kernel_rfl) (by kernel_rfl) (fun _ _ _ h => h) (Or.inl ⟨by rfl, ?_⟩) (by assumption) ?_
            rotate_left
            · (intro w hSw; (try dsimp only at hSw); go_simp; try with_reducible rfl)
            try simp only [Act.put, List.setIfInBounds_toArray, List.set_cons_zero, List.set_cons_succ]
            refine wpAnyH_take (i := 13) (oi := ⟨some 164, _, _, _, _, _⟩) (v := ?_) rfl (by kernel_rfl) (by kernel_rfl) (by kernel_rfl) (fun _ _ _ h => h) (Or.inl ⟨by rfl, ?_⟩) (by assumption) ?_
            rotate_left
            · (intro w hSw; (try dsimp only at hSw); go_simp; try with_reducible rfl)
            try simp only [Act.put, List.setIfInBounds_toArray, List.set_cons_zero, List.set_cons_succ]
            refine wpAnyH_take (i := 14) (oi := ⟨some 165, _, _, _, _, _⟩) (v := ?_) rfl (by kernel_rfl) (by kernel_rfl) (by kernel_rfl) (fun _ _ _ h => h) (Or.inl ⟨by rfl, ?_⟩) (by assumption) ?_
            rotate_left
            · (intro w hSw; (try dsimp only at hSw); go_simp; try with_reducible rfl)
            try simp only [Act.put, List.setIfInBounds_toArray, List.set_cons_zero, List.set_cons_succ]
            refine wpAnyH_take (i := 15) (oi := ⟨some 166, _, _, _, _, _⟩) (v := ?_) rfl (by kernel_rfl) (by kernel_rfl) (by kernel_rfl) (fun _ _ _ h => h) (Or.inl ⟨by rfl, ?_⟩) (by assumption) ?_
            rotate_left
            · (intro w hSw; (try dsimp only at hSw); go_simp; try with_reducible rfl)
            try simp only [Act.put, List.setIfInBounds_toArray, List.set_cons_zero, List.set_cons_succ]
            refine wpAnyH_take (i := 18) (oi := ⟨some 169, _, _, _, _, _⟩) (v := ?_) rfl (by kernel_rfl) (by kernel_rfl) (by kernel_rfl) (fun _ _ _ h => h) (Or.inl ⟨by rfl, ?_⟩) (by assumption) ?_
            rotate_left
            · (intro w hSw; (try dsimp only at hSw); go_simp; try with_reducible rfl)
            try simp only [Act.put, List.setIfInBounds_toArray, List.set_cons_zero, List.set_cons_succ]
            refine wpAnyH_take (i := 19) (oi := ⟨some 170, _, _, _, _, _⟩) (v := ?_) rfl (by kernel_rfl) (by kernel_rfl) (by kernel_rfl) (fun _ _ _ h => h) (Or.inl ⟨by rfl, ?_⟩) (by assumption) ?_
            rotate_left
            · (intro w hSw; (try dsimp only at hSw); go_simp; try with_reducible rfl)
            try simp only [Act.put, List.setIfInBounds_toArray, List.set_cons_zero, List.set_cons_succ]
            refine wpAnyH_ready (rs := [16]) (by kernel_rfl) (by simp) ?_
            refine AllReadyH.cons (o := ⟨some 167, _, _, _, _, _⟩) rfl (fun K hK => ?_) AllReadyH.nil
            go_simp
            refine (hst.2.t.at_.mat hP t).mono ?_
            rintro e wx ⟨r1, rfl, hs1, hBx⟩
            replace hst := And.intro (hst.1.below hBx) (hst.2.below hBx)
            clear hBx
            go_wp2_with fail
            refine hK.out _ _ ?_ (fun hHeldX => ?_)
            · exact ⟨hst.2.t.box.at (o := 0) rfl, hst.2.t.box.at (o := 1) rfl, hst.2.x.at (o := 0) rfl, hst.2.x.at (o := 1) rfl⟩
            clear hK K hHeld
            rename _ => hHeld
            try simp only [Act.put, List.setIfInBounds_toArray, List.set_cons_zero, List.set_cons_succ]
            refine wpAnyH_ready (rs := [17]) (by kernel_rfl) (by simp) ?_
            refine AllReadyH.cons (o := ⟨some 168, _, _, _, _, _⟩) rfl (fun K hK => ?_) AllReadyH.nil
            go_simp
            refine (list13 r1 _ _ hs1 (by have := mz_len P t.data.toList; omega)).mono ?_
            rintro e wx ⟨r2, rfl, hn2, hBx⟩
            replace hst := And.intro (hst.1.below hBx) (hst.2.below hBx)
            clear hs1
            clear hBx
            go_wp2_with fail
            refine hK.out _ _ ?_ (fun hHeldX => ?_)
            · exact ⟨hst.2.t.box.at (o := 0) rfl, hst.2.t.box.at (o := 1) rfl, hst.2.x.at (o := 0) rfl, hst.2.x.at (o := 1) rfl⟩
            clear hK K hHeld
            rename _ => hHeld
            try simp only [Act.put, List.setIfInBounds_toArray, List.set_cons_zero, List.set_cons_succ]
            refine wpAnyH_ready (rs := [20]) (by kernel_rfl) (by simp) ?_
            refine AllReadyH.cons (o := ⟨some 171, _, _, _, _, _⟩) rfl (fun K hK => ?_) AllReadyH.nil
            go_simp
            refine (rf_Match _ P t _ hst.2.r (by omega) (fun p hp => by have := (bytesOk_len (filterZ_bytes (hst.2.t.at_.ok.filt p hp))).2; omega) hts).mono ?_
            rintro e wx ⟨r3, rfl, hn3, hBx⟩
            replace hst := And.intro (hst.1.below hBx) (hst.2.below hBx)
            replace hn2 := hn2.below hBx
            clear hBx
            go_wp2_with fail
            refine hK.out _ _ ?_ (fun hHeldX => ?_)
            · exact ⟨hst.2.t.box.at (o := 0) rfl, hst.2.t.box.at (o := 1) rfl, hst.2.x.at (o := 0) rfl, hst.2.x.at (o := 1) rfl⟩
            clear hK K hHeld
            rename _ => hHeld
            try simp only [Act.put, List.setIfInBounds_toArray, List.set_cons_zero, List.set_cons_succ]
            refine wpAnyH_ready (rs := [21]) (by kernel_rfl) (by simp) ?_
            refine AllReadyH.cons (o := ⟨some 172, _, _, _, _, _⟩) rfl (fun K hK => ?_) AllReadyH.nil
            go_simp
            refine (ref_Ints _ _ _ _ _ hn2 hn3 (by have := mz_len P t.data.toList; omega) (by have := mz_len P t.data.toList; omega)).mono ?_
            rintro e wx ⟨rfl, hBx⟩
            replace hst := And.intro (hst.1.below hBx) (hst.2.below hBx)
            rw [decide_eq_true rfl]
            clear hn2 hn3
            clear hBx
            go_wp2_with fail
            refine hK.out _ _ ?_ (fun hHeldX => ?_)
            · exact ⟨hst.2.t.box.at (o := 0) rfl, hst.2.t.box.at (o := 1) rfl, hst.2.x.at (o := 0) rfl, hst.2.x.at (o := 1) rfl⟩
            clear hK K hHeld
            rename _ => hHeld
            try simp only [Act.put, List.setIfInBounds_toArray, List.set_cons_zero, List.set_cons_succ]
            refine wpAnyH_take (i := 22) (oi := ⟨some 173, _, _, _, _, _⟩) (v := ?_) rfl (by kernel_rfl) (by kernel_rfl) (by kernel_rfl) (fun _ _ _ h => h) (Or.inl ⟨by rfl, ?_⟩) (by assumption) ?_
            rotate_left
            · (intro w hSw; (try dsimp only at hSw); go_simp; try with_reducible rfl)
            try simp only [Act.put, List.setIfInBounds_toArray, List.set_cons_zero, List.set_cons_succ]
            refine wpAnyH_take (i := 23) (oi := ⟨some 174, _, _, _, _, _⟩) (v := ?_) rfl (by kernel_rfl) (by kernel_rfl) (by kernel_rfl) (fun _ _ _ h => h) (Or.inl ⟨by rfl, ?_⟩) (by assumption) ?_
            rotate_left
            · (intro w hSw; (try dsimp only at hSw); go_simp; try with_reducible rfl)
            try simp only [Act.put, List.setIfInBounds_toArray, List.set_cons_zero, List.set_cons_succ]
            refine wpAnyH_done (by kernel_rfl) ?_ _
            refine NoPanic.normal ?_
            have HE := Lib.hid hst.1
            clear hst hHeld
            go_wp2_with fail
            go_roundg (gk - 1)
            case measure => omega
            case rel => exact ⟨k + 1, _, _, _, P', _, _, _, _, _, _, by omega, by go_num, by omega, HE⟩
          | false =>
            obtain ⟨ev, P', hl', HA, HRa⟩ : ∃ (ev : Int) (P' : List Pr), P'.length ≤ P.length + 1 ∧ Hid (∀ W, NdAt (S2 T X) W q n o P → (∀ j, W.heap.size ≤ j → ¬ S2 T X j) → Calls Tryz.prog 9 #[.agg #[.pointer q, .int .i64 (n : Int)], .string ⟨fk.toArray⟩, .int .i64 ds] W fun e w' => ∃ (q' : Option Addr) (n' : Nat) (o' : Nd), e = .returned (.tuple #[.agg #[.pointer q', .int .i64 (n' : Int)], .int .i64 ev]) ∧ NdAt (S2 T X) w' q' n' o' P' ∧ Below W.heap.size W w') ∧
                Hid (∀ W v, RfAt (S2 T X) W v P → (∀ j, W.heap.size ≤ j → ¬ S2 T X j) → Calls Tryz.prog 10 #[v, keyV fk, .int .i64 ds] W fun e w' => ∃ r, e = .returned (.tuple #[r, .int .i64 ev]) ∧ RfAt (S2 T X) w' r P' ∧ Below W.heap.size W w') :=
              ⟨addE P fk ds, addZ P fk ds, addZ_len _ _ _, Lib.hid fun W hn hf => (hn.add hf hP ⟨fk.toArray⟩ ds).mono fun e w' ⟨q', n', o', h1, h2, _, h3⟩ => ⟨q', n', o', h1, h2, h3⟩, Lib.hid fun W v hr hf => rf_Add v P fk ds W hf hr (by omega) hfk⟩
            have hP3 : P'.length ≤ 110 := by omega
            have hP4 : P'.length ≤ k + 1 := by omega
            clear HX0
            go_upto_region 16 with fail
            clear HXw
            have hst := And.intro (HC.out.1.below (W := wc.drew) (Below.refl _ _).drew) (HC.out.2.below (W := wc.drew) (Below.refl _ _).drew)
            clear HC
            refine wp_region_noPanic ?_
            refine wp_region_held_drew (S := (fun w' => w'.cell? ⟨bd, off + k * 3 + 1, none⟩ = some (.string ⟨fk.toArray⟩) ∧ w'.cell? ⟨bd, off + k * 3 + 2, none⟩ = some (.int .i64 ds))) (by kernel_rfl) ?_ (fun hHeld => ?_)
            · exact HX.out _ hst.1.low
            refine wpAnyH_take (i := 1) (oi := ⟨some 66, _, _, _, _, _⟩) (v := ?_) rfl (by kernel_rfl) (by kernel_rfl) (by kernel_rfl) (fun _ _ _ h => h) (Or.inl ⟨by rfl, ?_⟩) (by assumption) ?_
            rotate_left
            · (intro w hSw; (try dsimp only at hSw); go_simp; try with_reducible rfl)
            try simp only [Act.put, List.setIfInBounds_toArray, List.set_cons_zero, List.set_cons_succ]
            refine wpAnyH_take (i := 2) (oi := ⟨some 67, _, _, _, _, _⟩) (v := ?_) rfl (by kernel_rfl) (by kernel_rfl) (by kernel_rfl) (fun _ _ _ h => h) (Or.inl ⟨by rfl, ?_⟩) (by assumption) ?_
            rotate_left
            · (intro w hSw; (try dsimp only at hSw); go_simp; try with_reducible rfl)
            try simp only [Act.put, List.setIfInBounds_toArray, List.set_cons_zero, List.set_cons_succ]
            refine wpAnyH_take (i := 3) (oi := ⟨some 68, _, _, _, _, _⟩) (v := ?_) rfl (by kernel_rfl) (by kernel_rfl) (by kernel_rfl) (fun _ _ _ h => h) (Or.inl ⟨by rfl, ?_⟩) (by assumption) ?_
            rotate_left
            · (intro w hSw; (try dsimp only at hSw); go_simp; try with_reducible rfl)
            try simp only [Act.put, List.setIfInBounds_toArray, List.set_cons_zero, List.set_cons_succ]
            refine wpAnyH_take (i := 4) (oi := ⟨some 69, _, _, _, _, _⟩) (v := ?_) rfl (by kernel_rfl) (by kernel_rfl) (by kernel_rfl) (fun _ _ _ h => h) (Or.inl ⟨by rfl, ?_⟩) (by assumption) ?_
            rotate_left
            · (intro w hSw; (try dsimp only at hSw); go_simp; try with_reducible rfl)
            try simp only [Act.put, List.setIfInBounds_toArray, List.set_cons_zero, List.set_cons_succ]
            refine wpAnyH_take (i := 5) (oi := ⟨some 70, _, _, _, _, _⟩) (v := ?_) rfl (by kernel_rfl) (by kernel_rfl) (by kernel_rfl) (fun _ _ _ h => h) (Or.inl ⟨by rfl, ?_⟩) (by assumption) ?_
            rotate_left
            · (intro w hSw; (try dsimp only at hSw); go_simp; try with_reducible rfl)
            try simp only [Act.put, List.setIfInBounds_toArray, List.set_cons_zero, List.set_cons_succ]
            refine wpAnyH_take (i := 6) (oi := ⟨some 71, _, _, _, _, _⟩) (v := ?_) rfl (by kernel_rfl) (by kernel_rfl) (by kernel_rfl) (fun _ _ _ h => h) (Or.inl ⟨by rfl, ?_⟩) (by assumption) ?_
            rotate_left
            · (intro w hSw; (try dsimp only at hSw); go_simp; try with_reducible rfl)
            try simp only [Act.put, List.setIfInBounds_toArray, List.set_cons_zero, List.set_cons_succ]
            refine wpAnyH_take (i := 7) (oi := ⟨some 72, _, _, _, _, _⟩) (v := ?_) rfl (by kernel_rfl) (by kernel_rfl) (by kernel_rfl) (fun _ _ _ h => h) (Or.inl ⟨by rfl, ?_⟩) (by assumption) ?_
            rotate_left
            · (intro w hSw; (try dsimp only at hSw); go_simp; try with_reducible rfl)
            try simp only [Act.put, List.setIfInBounds_toArray, List.set_cons_zero, List.set_cons_succ]
            refine wpAnyH_take (i := 8) (oi := ⟨some 73, _, _, _, _, _⟩) (v := ?_) rfl (by kernel_rfl) (by kernel_rfl) (by kernel_rfl) (fun _ _ _ h => h) (Or.inl ⟨by rfl, ?_⟩) (by assumption) ?_
            rotate_left
            · (intro w hSw; (try dsimp only at hSw); go_simp; try with_reducible rfl)
            try simp only [Act.put, List.setIfInBounds_toArray, List.set_cons_zero, List.set_cons_succ]
            refine wpAnyH_take (i := 9) (oi := ⟨some 74, _, _, _, _, _⟩) (v := ?_) rfl (by kernel_rfl) (by kernel_rfl) (by kernel_rfl) (fun _ _ _ h => h) (Or.inl ⟨by rfl, ?_⟩) (by assumption) ?_
            rotate_left
            · (intro w hSw; (try dsimp only at hSw); go_simp; try with_reducible rfl)
            try simp only [Act.put, List.setIfInBounds_toArray, List.set_cons_zero, List.set_cons_succ]
            refine wpAnyH_take (i := 10) (oi := ⟨some 75, _, _, _, _, _⟩) (v := ?_) rfl (by kernel_rfl) (by kernel_rfl) (by kernel_rfl) (fun _ _ _ h => h) (Or.inl ⟨by rfl, ?_⟩) (by assumption) ?_
            rotate_left
            · (intro w hSw; (try dsimp only at hSw); go_simp; try with_reducible rfl)
            try simp only [Act.put, List.setIfInBounds_toArray, List.set_cons_zero, List.set_cons_succ]
            refine wpAnyH_ready (rs := [0]) (by kernel_rfl) (by simp) ?_
            refine AllReadyH.cons (o := ⟨some 65, _, _, _, _, _⟩) rfl (fun K hK => ?_) AllReadyH.nil
            have cX := hst.1.t.box.at (o := 0) rfl
            have cY := hst.1.t.box.at (o := 1) rfl
            go_simp
            clear cX cY
            refine hK.out _ _ ?_ (fun hHeldX => ?_)
            · exact HX.out _ hst.1.low
            clear hK K hHeld
            rename _ => hHeld
            try simp only [Act.put, List.setIfInBounds_toArray, List.set_cons_zero, List.set_cons_succ]
            refine wpAnyH_ready (rs := [11]) (by kernel_rfl) (by simp) ?_
            refine AllReadyH.cons (o := ⟨some 76, _, _, _, _, _⟩) rfl (fun K hK => ?_) AllReadyH.nil
            go_simp
            refine (HA.out _ hst.1.t.at_ hst.1.fresh).mono ?_
            rintro e wx ⟨q', n', o', rfl, hnd, hBx⟩
            replace hst := And.intro (hst.1.below hBx) (hst.2.below hBx)
            have HN := Lib.hid hnd
            clear hnd hBx
            go_wp2_with fail
            refine hK.out _ _ ?_ (fun hHeldX => ?_)
            · exact HX.out _ hst.1.low
            clear hK K hHeld
            rename _ => hHeld
            try simp only [Act.put, List.setIfInBounds_toArray, List.set_cons_zero, List.set_cons_succ]
            refine wpAnyH_take (i := 12) (oi := ⟨some 64, _, _, _, _, _⟩) (v := ?_) rfl (by kernel_rfl) (by kernel_rfl) (by kernel_rfl) (fun _ _ _ h => h) (Or.inl ⟨by rfl, ?_⟩) (by assumption) ?_
            rotate_left
            · (intro w hSw; (try dsimp only at hSw); go_simp; try with_reducible rfl)
            try simp only [Act.put, List.setIfInBounds_toArray, List.set_cons_zero, List.set_cons_succ]
            refine wpAnyH_take (i := 13) (oi := ⟨some 77, _, _, _, _, _⟩) (v := ?_) rfl (by kernel_rfl) (by kernel_rfl) (by kernel_rfl) (fun _ _ _ h => h) (Or.inl ⟨by rfl, ?_⟩) (by assumption) ?_
            rotate_left
            · (intro w hSw; (try dsimp only at hSw); go_simp; try with_reducible rfl)
            try simp only [Act.put, List.setIfInBounds_toArray, List.set_cons_zero, List.set_cons_succ]
            refine wpAnyH_take (i := 14) (oi := ⟨some 78, _, _, _, _, _⟩) (v := ?_) rfl (by kernel_rfl) (by kernel_rfl) (by kernel_rfl) (fun _ _ _ h => h) (Or.inl ⟨by rfl, ?_⟩) (by assumption) ?_
            rotate_left
            · (intro w hSw; (try dsimp only at hSw); go_simp; try with_reducible rfl)
            try simp only [Act.put, List.setIfInBounds_toArray, List.set_cons_zero, List.set_cons_succ]
            refine wpAnyH_ready (rs := [15]) (by kernel_rfl) (by simp) ?_
            refine AllReadyH.cons (o := ⟨none, _, _, _, _, _⟩) rfl (fun K hK => ?_) AllReadyH.nil
            have cX := hst.1.t.box.at (o := 0) rfl
            have cY := hst.1.t.box.at (o := 1) rfl
            have fX := hst.1.t.box.frozen 0
            have fY := hst.1.t.box.frozen 1
            go_simp
            clear cX cY fX fY
            refine hK.out _ _ ?_ (fun hHeldX => ?_)
            · exact HX.out _ ((hst.1.low.setCell (p := ⟨T, 0, none⟩) hst.1.lT _).setCell (p := ⟨T, 1, none⟩) hst.1.lT _)
            clear hK K hHeld
            rename _ => hHeld
            try simp only [Act.put, List.setIfInBounds_toArray, List.set_cons_zero, List.set_cons_succ]
            refine wpAnyH_take (i := 16) (oi := ⟨some 10, _, _, _, _, _⟩) (v := ?_) rfl (by kernel_rfl) (by kernel_rfl) (by kernel_rfl) (fun _ _ _ h => h) (Or.inl ⟨by rfl, ?_⟩) (by assumption) ?_
            rotate_left
            · (intro w hSw; (try dsimp only at hSw); go_simp; try with_reducible rfl)
            try simp only [Act.put, List.setIfInBounds_toArray, List.set_cons_zero, List.set_cons_succ]
            refine wpAnyH_done (by kernel_rfl) ?_ _
            refine NoPanic.normal ?_
            have HE := Lib.hid (And.intro (hst.1.putT HN.out) (hst.2.putT (.pointer q') (.int .i64 (n' : Int))))
            clear hst hHeld HN
            generalize (World.setCell (World.setCell _ _ _) _ _) = W5 at *
            go_upto_region 17 with fail
            have hst := And.intro (HE.out.1.below (W := W5.drew) (Below.refl _ _).drew) (HE.out.2.below (W := W5.drew) (Below.refl _ _).drew)
            clear HE
            refine wp_region_noPanic ?_
            refine wp_region_held_drew (S := (fun w' => w'.cell? ⟨bd, off + k * 3 + 1, none⟩ = some (.string ⟨fk.toArray⟩) ∧ w'.cell? ⟨bd, off + k * 3 + 2, none⟩ = some (.int .i64 ds))) (by kernel_rfl) ?_ (fun hHeld => ?_)
            · exact HX.out _ hst.1.low
            refine wpAnyH_take (i := 1) (oi := ⟨some 81, _, _, _, _, _⟩) (v := ?_) rfl (by kernel_rfl) (by kernel_rfl) (by kernel_rfl) (fun _ _ _ h => h) (Or.inl ⟨by rfl, ?_⟩) (by assumption) ?_
            rotate_left
            · (intro w hSw; (try dsimp only at hSw); go_simp; try with_reducible rfl)
            try simp only [Act.put, List.setIfInBounds_toArray, List.set_cons_zero, List.set_cons_succ]
            refine wpAnyH_take (i := 2) (oi := ⟨some 82, _, _, _, _, _⟩) (v := ?_) rfl (by kernel_rfl) (by kernel_rfl) (by kernel_rfl) (fun _ _ _ h => h) (Or.inl ⟨by rfl, ?_⟩) (by assumption) ?_
            rotate_left
            · (intro w hSw; (try dsimp only at hSw); go_simp; try with_reducible rfl)
            try simp only [Act.put, List.setIfInBounds_toArray, List.set_cons_zero, List.set_cons_succ]
            refine wpAnyH_take (i := 3) (oi := ⟨some 83, _, _, _, _, _⟩) (v := ?_) rfl (by kernel_rfl) (by kernel_rfl) (by kernel_rfl) (fun _ _ _ h => h) (Or.inl ⟨by rfl, ?_⟩) (by assumption) ?_
            rotate_left
            · (intro w hSw; (try dsimp only at hSw); go_simp; try with_reducible rfl)
            try simp only [Act.put, List.setIfInBounds_toArray, List.set_cons_zero, List.set_cons_succ]
            refine wpAnyH_take (i := 4) (oi := ⟨some 84, _, _, _, _, _⟩) (v := ?_) rfl (by kernel_rfl) (by kernel_rfl) (by kernel_rfl) (fun _ _ _ h => h) (Or.inl ⟨by rfl, ?_⟩) (by assumption) ?_
            rotate_left
            · (intro w hSw; (try dsimp only at hSw); go_simp; try with_reducible rfl)
            try simp only [Act.put, List.setIfInBounds_toArray, List.set_cons_zero, List.set_cons_succ]
            refine wpAnyH_take (i := 5) (oi := ⟨some 85, _, _, _, _, _⟩) (v := ?_) rfl (by kernel_rfl) (by kernel_rfl) (by kernel_rfl) (fun _ _ _ h => h) (Or.inl ⟨by rfl, ?_⟩) (by assumption) ?_
            rotate_left
            · (intro w hSw; (try dsimp only at hSw); go_simp; try with_reducible rfl)
            try simp only [Act.put, List.setIfInBounds_toArray, List.set_cons_zero, List.set_cons_succ]
            refine wpAnyH_take (i := 6) (oi := ⟨some 86, _, _, _, _, _⟩) (v := ?_) rfl (by kernel_rfl) (by kernel_rfl) (by kernel_rfl) (fun _ _ _ h => h) (Or.inl ⟨by rfl, ?_⟩) (by assumption) ?_
            rotate_left
            · (intro w hSw; (try dsimp only at hSw); go_simp; try with_reducible rfl)
            try simp only [Act.put, List.setIfInBounds_toArray, List.set_cons_zero, List.set_cons_succ]
            refine wpAnyH_take (i := 7) (oi := ⟨some 87, _, _, _, _, _⟩) (v := ?_) rfl (by kernel_rfl) (by kernel_rfl) (by kernel_rfl) (fun _ _ _ h => h) (Or.inl ⟨by rfl, ?_⟩) (by assumption) ?_
            rotate_left
            · (intro w hSw; (try dsimp only at hSw); go_simp; try with_reducible rfl)
            try simp only [Act.put, List.setIfInBounds_toArray, List.set_cons_zero, List.set_cons_succ]
            refine wpAnyH_take (i := 8) (oi := ⟨some 88, _, _, _, _, _⟩) (v := ?_) rfl (by kernel_rfl) (by kernel_rfl) (by kernel_rfl) (fun _ _ _ h => h) (Or.inl ⟨by rfl, ?_⟩) (by assumption) ?_
            rotate_left
            · (intro w hSw; (try dsimp only at hSw); go_simp; try with_reducible rfl)
            try simp only [Act.put, List.setIfInBounds_toArray, List.set_cons_zero, List.set_cons_succ]
            refine wpAnyH_take (i := 9) (oi := ⟨some 89, _, _, _, _, _⟩) (v := ?_) rfl (by kernel_rfl) (by kernel_rfl) (by kernel_rfl) (fun _ _ _ h => h) (Or.inl ⟨by rfl, ?_⟩) (by assumption) ?_
            rotate_left
            · (intro w hSw; (try dsimp only at hSw); go_simp; try with_reducible rfl)
            try simp only [Act.put, List.setIfInBounds_toArray, List.set_cons_zero, List.set_cons_succ]
            refine wpAnyH_take (i := 10) (oi := ⟨some 90, _, _, _, _, _⟩) (v := ?_) rfl (by kernel_rfl) (by kernel_rfl) (by kernel_rfl) (fun _ _ _ h => h) (Or.inl ⟨by rfl, ?_⟩) (by assumption) ?_
            rotate_left
            · (intro w hSw; (try dsimp only at hSw); go_simp; try with_reducible rfl)
            try simp only [Act.put, List.setIfInBounds_toArray, List.set_cons_zero, List.set_cons_succ]
            refine wpAnyH_ready (rs := [0]) (by kernel_rfl) (by simp) ?_
            refine AllReadyH.cons (o := ⟨some 80, _, _, _, _, _⟩) rfl (fun K hK => ?_) AllReadyH.nil
            have cX := hst.1.x.at (o := 0) rfl
            have cY := hst.1.x.at (o := 1) rfl
            go_simp
            clear cX cY
            refine hK.out _ _ ?_ (fun hHeldX => ?_)
            · exact HX.out _ hst.1.low
            clear hK K hHeld
            rename _ => hHeld
            try simp only [Act.put, List.setIfInBounds_toArray, List.set_cons_zero, List.set_cons_succ]
            refine wpAnyH_ready (rs := [11]) (by kernel_rfl) (by simp) ?_
            refine AllReadyH.cons (o := ⟨some 91, _, _, _, _, _⟩) rfl (fun K hK => ?_) AllReadyH.nil
            go_simp
            refine (HRa.out _ _ hst.1.r hst.1.fresh).mono ?_
            rintro e wx ⟨r', rfl, hrf, hBx⟩
            replace hst := And.intro (hst.1.below hBx) (hst.2.below hBx)
            have hrf2 := hrf
            obtain ⟨ka', kc', va', vc', rfl, _⟩ := hrf2
            have HR := Lib.hid hrf
            clear hrf hBx
            go_wp2_with fail
            refine hK.out _ _ ?_ (fun hHeldX => ?_)
            · exact HX.out _ hst.1.low
            clear hK K hHeld
            rename _ => hHeld
            try simp only [Act.put, List.setIfInBounds_toArray, List.set_cons_zero, List.set_cons_succ]
            refine wpAnyH_take (i := 12) (oi := ⟨some 79, _, _, _, _, _⟩) (v := ?_) rfl (by kernel_rfl) (by kernel_rfl) (by kernel_rfl) (fun _ _ _ h => h) (Or.inl ⟨by rfl, ?_⟩) (by assumption) ?_
            rotate_left
            · (intro w hSw; (try dsimp only at hSw); go_simp; try with_reducible rfl)
            try simp only [Act.put, List.setIfInBounds_toArray, List.set_cons_zero, List.set_cons_succ]
            refine wpAnyH_take (i := 13) (oi := ⟨some 92, _, _, _, _, _⟩) (v := ?_) rfl (by kernel_rfl) (by kernel_rfl) (by kernel_rfl) (fun _ _ _ h => h) (Or.inl ⟨by rfl, ?_⟩) (by assumption) ?_
            rotate_left
            · (intro w hSw; (try dsimp only at hSw); go_simp; try with_reducible rfl)
            try simp only [Act.put, List.setIfInBounds_toArray, List.set_cons_zero, List.set_cons_succ]
            refine wpAnyH_take (i := 14) (oi := ⟨some 93, _, _, _, _, _⟩) (v := ?_) rfl (by kernel_rfl) (by kernel_rfl) (by kernel_rfl) (fun _ _ _ h => h) (Or.inl ⟨by rfl, ?_⟩) (by assumption) ?_
            rotate_left
            · (intro w hSw; (try dsimp only at hSw); go_simp; try with_reducible rfl)
            try simp only [Act.put, List.setIfInBounds_toArray, List.set_cons_zero, List.set_cons_succ]
            refine wpAnyH_ready (rs := [15]) (by kernel_rfl) (by simp) ?_
            refine AllReadyH.cons (o := ⟨none, _, _, _, _, _⟩) rfl (fun K hK => ?_) AllReadyH.nil
            have cX := hst.1.x.at (o := 0) rfl
            have cY := hst.1.x.at (o := 1) rfl
            have fX := hst.1.x.frozen 0
            have fY := hst.1.x.frozen 1
            go_simp
            clear cX cY fX fY
            refine hK.out _ _ ?_ (fun hHeldX => ?_)
            · exact HX.out _ ((hst.1.low.setCell (p := ⟨X, 0, none⟩) hst.1.lX _).setCell (p := ⟨X, 1, none⟩) hst.1.lX _)
            clear hK K hHeld
            rename _ => hHeld
            try simp only [Act.put, List.setIfInBounds_toArray, List.set_cons_zero, List.set_cons_succ]
            refine wpAnyH_take (i := 16) (oi := ⟨some 11, _, _, _, _, _⟩) (v := ?_) rfl (by kernel_rfl) (by kernel_rfl) (by kernel_rfl) (fun _ _ _ h => h) (Or.inl ⟨by rfl, ?_⟩) (by assumption) ?_
            rotate_left
            · (intro w hSw; (try dsimp only at hSw); go_simp; try with_reducible rfl)
            try simp only [Act.put, List.setIfInBounds_toArray, List.set_cons_zero, List.set_cons_succ]
            refine wpAnyH_done (by kernel_rfl) ?_ _
            refine NoPanic.normal ?_
            have HE := Lib.hid (And.intro (hst.1.putX HR.out) (hst.2.putX (.slice ka' P'.length kc') (.slice va' P'.length vc')))
            clear hst hHeld HR HA HRa
            generalize (World.setCell (World.setCell _ _ _) _ _) = W6 at *
            obtain ⟨hv, pv, hhv, hpl, hpv⟩ := has_both P' (fk, ds)
            have HHV : Hid (decide (((⟨fk.toArray⟩ : ByteArray).data.toList, ds) ∈ P') = hv) := Lib.hid hhv
            have HPV := Lib.hid hpl
            clear hhv hpl
            go_upto_region 18 with fail
            have hst := And.intro (HE.out.1.below (W := W6.drew) (Below.refl _ _).drew) (HE.out.2.below (W := W6.drew) (Below.refl _ _).drew)
            clear HE
            refine wp_region_noPanic ?_
            refine wp_region_held_drew (S := (fun w' => w'.cell? ⟨T, 0, none⟩ = some (.pointer q') ∧ w'.cell? ⟨T, 1, none⟩ = some (.int .i64 (n' : Int)) ∧ w'.cell? ⟨X, 0, none⟩ = some (.slice ka' P'.length kc') ∧ w'.cell? ⟨X, 1, none⟩ = some (.slice va' P'.length vc') ∧ w'.cell? ⟨bd, off + k * 3 + 1, none⟩ = some (.string ⟨fk.toArray⟩) ∧ w'.cell? ⟨bd, off + k * 3 + 2, none⟩ = some (.int .i64 ds))) (by kernel_rfl) ?_ (fun hHeld => ?_)
            · exact ⟨hst.1.t.box.at (o := 0) rfl, hst.1.t.box.at (o := 1) rfl, hst.1.x.at (o := 0) rfl, hst.1.x.at (o := 1) rfl, HX.out _ hst.1.low⟩
            refine wpAnyH_take (i := 0) (oi := ⟨some 94, _, _, _, _, _⟩) (v := ?_) rfl (by kernel_rfl) (by kernel_rfl) (by kernel_rfl) (fun _ _ _ h => h) (Or.inl ⟨by rfl, ?_⟩) (by assumption) ?_
            rotate_left
            · (intro w hSw; (try dsimp only at hSw); go_simp; try with_reducible rfl)
            try simp only [Act.put, List.setIfInBounds_toArray, List.set_cons_zero, List.set_cons_succ]
            refine wpAnyH_take (i := 1) (oi := ⟨some 95, _, _, _, _, _⟩) (v := ?_) rfl (by kernel_rfl) (by kernel_rfl) (by kernel_rfl) (fun _ _ _ h => h) (Or.inl ⟨by rfl, ?_⟩) (by assumption) ?_
            rotate_left
            · (intro w hSw; (try dsimp only at hSw); go_simp; try with_reducible rfl)
            try simp only [Act.put, List.setIfInBounds_toArray, List.set_cons_zero, List.set_cons_succ]
            refine wpAnyH_take (i := 2) (oi := ⟨some 96, _, _, _, _, _⟩) (v := ?_) rfl (by kernel_rfl) (by kernel_rfl) (by kernel_rfl) (fun _ _ _ h => h) (Or.inl ⟨by rfl, ?_⟩) (by assumption) ?_
            rotate_left
            · (intro w hSw; (try dsimp only at hSw); go_simp; try with_reducible rfl)
            try simp only [Act.put, List.setIfInBounds_toArray, List.set_cons_zero, List.set_cons_succ]
            refine wpAnyH_take (i := 3) (oi := ⟨some 97, _, _, _, _, _⟩) (v := ?_) rfl (by kernel_rfl) (by kernel_rfl) (by kernel_rfl) (fun _ _ _ h => h) (Or.inl ⟨by rfl, ?_⟩) (by assumption) ?_
            rotate_left
            · (intro w hSw; (try dsimp only at hSw); go_simp; try with_reducible rfl)
            try simp only [Act.put, List.setIfInBounds_toArray, List.set_cons_zero, List.set_cons_succ]
            refine wpAnyH_take (i := 4) (oi := ⟨some 98, _, _, _, _, _⟩) (v := ?_) rfl (by kernel_rfl) (by kernel_rfl) (by kernel_rfl) (fun _ _ _ h => h) (Or.inl ⟨by rfl, ?_⟩) (by assumption) ?_
            rotate_left
            · (intro w hSw; (try dsimp only at hSw); go_simp; try with_reducible rfl)
            try simp only [Act.put, List.setIfInBounds_toArray, List.set_cons_zero, List.set_cons_succ]
            refine wpAnyH_take (i := 6) (oi := ⟨some 100, _, _, _, _, _⟩) (v := ?_) rfl (by kernel_rfl) (by kernel_rfl) (by kernel_rfl) (fun _ _ _ h => h) (Or.inl ⟨by rfl, ?_⟩) (by assumption) ?_
            rotate_left
            · (intro w hSw; (try dsimp only at hSw); go_simp; try with_reducible rfl)
            try simp only [Act.put, List.setIfInBounds_toArray, List.set_cons_zero, List.set_cons_succ]
            refine wpAnyH_take (i := 7) (oi := ⟨some 101, _, _, _, _, _⟩) (v := ?_) rfl (by kernel_rfl) (by kernel_rfl) (by kernel_rfl) (fun _ _ _ h => h) (Or.inl ⟨by rfl, ?_⟩) (by assumption) ?_
            rotate_left
            · (intro w hSw; (try dsimp only at hSw); go_simp; try with_reducible rfl)
            try simp only [Act.put, List.setIfInBounds_toArray, List.set_cons_zero, List.set_cons_succ]
            refine wpAnyH_take (i := 8) (oi := ⟨some 102, _, _, _, _, _⟩) (v := ?_) rfl (by kernel_rfl) (by kernel_rfl) (by kernel_rfl) (fun _ _ _ h => h) (Or.inl ⟨by rfl, ?_⟩) (by assumption) ?_
            rotate_left
            · (intro w hSw; (try dsimp only at hSw); go_simp; try with_reducible rfl)
            try simp only [Act.put, List.setIfInBounds_toArray, List.set_cons_zero, List.set_cons_succ]
            refine wpAnyH_ready (rs := [5]) (by kernel_rfl) (by simp) ?_
            refine AllReadyH.cons (o := ⟨some 99, _, _, _, _, _⟩) rfl (fun K hK => ?_) AllReadyH.nil
            go_simp
            refine (hst.1.t.at_.len).mono ?_
            rintro e wx ⟨rfl, hBx⟩
            replace hst := And.intro (hst.1.below hBx) (hst.2.below hBx)
            clear hBx
            go_wp2_with fail
            refine hK.out _ _ ?_ (fun hHeldX => ?_)
            · exact ⟨hst.1.t.box.at (o := 0) rfl, hst.1.t.box.at (o := 1) rfl, hst.1.x.at (o := 0) rfl, hst.1.x.at (o := 1) rfl, HX.out _ hst.1.low⟩
            clear hK K hHeld
            rename _ => hHeld
            try simp only [Act.put, List.setIfInBounds_toArray, List.set_cons_zero, List.set_cons_succ]
            refine wpAnyH_take (i := 9) (oi := ⟨some 103, _, _, _, _, _⟩) (v := ?_) rfl (by kernel_rfl) (by kernel_rfl) (by kernel_rfl) (fun _ _ _ h => h) (Or.inl ⟨by rfl, ?_⟩) (by assumption) ?_
            rotate_left
            · (intro w hSw; (try dsimp only at hSw); go_simp; try with_reducible rfl)
            try simp only [Act.put, List.setIfInBounds_toArray, List.set_cons_zero, List.set_cons_succ]
            refine wpAnyH_take (i := 10) (oi := ⟨some 104, _, _, _, _, _⟩) (v := ?_) rfl (by kernel_rfl) (by kernel_rfl) (by kernel_rfl) (fun _ _ _ h => h) (Or.inl ⟨by rfl, ?_⟩) (by assumption) ?_
            rotate_left
            · (intro w hSw; (try dsimp only at hSw); go_simp; try with_reducible rfl)
            try simp only [Act.put, List.setIfInBounds_toArray, List.set_cons_zero, List.set_cons_succ]
            refine wpAnyH_take (i := 11) (oi := ⟨some 105, _, _, _, _, _⟩) (v := ?_) rfl (by kernel_rfl) (by kernel_rfl) (by kernel_rfl) (fun _ _ _ h => h) (Or.inl ⟨by rfl, ?_⟩) (by assumption) ?_
            rotate_left
            · (intro w hSw; (try dsimp only at hSw); go_simp; try with_reducible rfl)
            try simp only [Act.put, List.setIfInBounds_toArray, List.set_cons_zero, List.set_cons_succ]
            refine wpAnyH_take (i := 12) (oi := ⟨some 106, _, _, _, _, _⟩) (v := ?_) rfl (by kernel_rfl) (by kernel_rfl) (by kernel_rfl) (fun _ _ _ h => h) (Or.inl ⟨by rfl, ?_⟩) (by assumption) ?_
            rotate_left
            · (intro w hSw; (try dsimp only at hSw); go_simp; try with_reducible rfl)
            try simp only [Act.put, List.setIfInBounds_toArray, List.set_cons_zero, List.set_cons_succ]
            refine wpAnyH_take (i := 13) (oi := ⟨some 107, _, _, _, _, _⟩) (v := ?_) rfl (by kernel_rfl) (by kernel_rfl) (by kernel_rfl) (fun _ _ _ h => h) (Or.inl ⟨by rfl, ?_⟩) (by assumption) ?_
            rotate_left
            · (intro w hSw; (try dsimp only at hSw); go_simp; try with_reducible rfl)
            try simp only [Act.put, List.setIfInBounds_toArray, List.set_cons_zero, List.set_cons_succ]
            refine wpAnyH_take (i := 14) (oi := ⟨some 108, _, _, _, _, _⟩) (v := ?_) rfl (by kernel_rfl) (by kernel_rfl) (by kernel_rfl) (fun _ _ _ h => h) (Or.inl ⟨by rfl, ?_⟩) (by assumption) ?_
            rotate_left
            · (intro w hSw; (try dsimp only at hSw); go_simp; try with_reducible rfl)
            try simp only [Act.put, List.setIfInBounds_toArray, List.set_cons_zero, List.set_cons_succ]
            refine wpAnyH_take (i := 15) (oi := ⟨some 109, _, _, _, _, _⟩) (v := ?_) rfl (by kernel_rfl) (by kernel_rfl) (by kernel_rfl) (fun _ _ _ h => h) (Or.inl ⟨by rfl, ?_⟩) (by assumption) ?_
            rotate_left
            · (intro w hSw; (try dsimp only at hSw); go_simp; try with_reducible rfl)
            try simp only [Act.put, List.setIfInBounds_toArray, List.set_cons_zero, List.set_cons_succ]
            refine wpAnyH_take (i := 16) (oi := ⟨some 110, _, _, _, _, _⟩) (v := ?_) rfl (by kernel_rfl) (by kernel_rfl) (by kernel_rfl) (fun _ _ _ h => h) (Or.inl ⟨by rfl, ?_⟩) (by assumption) ?_
            rotate_left
            · (intro w hSw; (try dsimp only at hSw); go_simp; try with_reducible rfl)
            try simp only [Act.put, List.setIfInBounds_toArray, List.set_cons_zero, List.set_cons_succ]
            refine wpAnyH_take (i := 17) (oi := ⟨some 111, _, _, _, _, _⟩) (v := ?_) rfl (by kernel_rfl) (by kernel_rfl) (by kernel_rfl) (fun _ _ _ h => h) (Or.inl ⟨by rfl, ?_⟩) (by assumption) ?_
            rotate_left
            · (intro w hSw; (try dsimp only at hSw); go_simp; try with_reducible rfl)
            try simp only [Act.put, List.setIfInBounds_toArray, List.set_cons_zero, List.set_cons_succ]
            refine wpAnyH_take (i := 18) (oi := ⟨some 112, _, _, _, _, _⟩) (v := ?_) rfl (by kernel_rfl) (by kernel_rfl) (by kernel_rfl) (fun _ _ _ h => h) (Or.inl ⟨by rfl, ?_⟩) (by assumption) ?_
            rotate_left
            · (intro w hSw; (try dsimp only at hSw); go_simp; try with_reducible rfl)
            try simp only [Act.put, List.setIfInBounds_toArray, List.set_cons_zero, List.set_cons_succ]
            refine wpAnyH_take (i := 19) (oi := ⟨some 113, _, _, _, _, _⟩) (v := ?_) rfl (by kernel_rfl) (by kernel_rfl) (by kernel_rfl) (fun _ _ _ h => h) (Or.inl ⟨by rfl, ?_⟩) (by assumption) ?_
            rotate_left
            · (intro w hSw; (try dsimp only at hSw); go_simp; try with_reducible rfl)
            try simp only [Act.put, List.setIfInBounds_toArray, List.set_cons_zero, List.set_cons_succ]
            refine wpAnyH_take (i := 20) (oi := ⟨some 114, _, _, _, _, _⟩) (v := ?_) rfl (by kernel_rfl) (by kernel_rfl) (by kernel_rfl) (fun _ _ _ h => h) (Or.inl ⟨by rfl, ?_⟩) (by assumption) ?_
            rotate_left
            · (intro w hSw; (try dsimp only at hSw); go_simp; try with_reducible rfl)
            try simp only [Act.put, List.setIfInBounds_toArray, List.set_cons_zero, List.set_cons_succ]
            refine wpAnyH_take (i := 21) (oi := ⟨some 115, _, _, _, _, _⟩) (v := ?_) rfl (by kernel_rfl) (by kernel_rfl) (by kernel_rfl) (fun _ _ _ h => h) (Or.inl ⟨by rfl, ?_⟩) (by assumption) ?_
            rotate_left
            · (intro w hSw; (try dsimp only at hSw); go_simp; try with_reducible rfl)
            try simp only [Act.put, List.setIfInBounds_toArray, List.set_cons_zero, List.set_cons_succ]
            refine wpAnyH_take (i := 22) (oi := ⟨some 116, _, _, _, _, _⟩) (v := ?_) rfl (by kernel_rfl) (by kernel_rfl) (by kernel_rfl) (fun _ _ _ h => h) (Or.inl ⟨by rfl, ?_⟩) (by assumption) ?_
            rotate_left
            · (intro w hSw; (try dsimp only at hSw); go_simp; try with_reducible rfl)
            try simp only [Act.put, List.setIfInBounds_toArray, List.set_cons_zero, List.set_cons_succ]
            refine wpAnyH_take (i := 24) (oi := ⟨some 118, _, _, _, _, _⟩) (v := ?_) rfl (by kernel_rfl) (by kernel_rfl) (by kernel_rfl) (fun _ _ _ h => h) (Or.inl ⟨by rfl, ?_⟩) (by assumption) ?_
            rotate_left
            · (intro w hSw; (try dsimp only at hSw); go_simp; try with_reducible rfl)
            try simp only [Act.put, List.setIfInBounds_toArray, List.set_cons_zero, List.set_cons_succ]
            refine wpAnyH_take (i := 25) (oi := ⟨some 119, _, _, _, _, _⟩) (v := ?_) rfl (by kernel_rfl) (by kernel_rfl) (by kernel_rfl) (fun _ _ _ h => h) (Or.inl ⟨by rfl, ?_⟩) (by assumption) ?_
            rotate_left
            · (intro w hSw; (try dsimp only at hSw); go_simp; try with_reducible rfl)
            try simp only [Act.put, List.setIfInBounds_toArray, List.set_cons_zero, List.set_cons_succ]
            refine wpAnyH_take (i := 26) (oi := ⟨some 120, _, _, _, _, _⟩) (v := ?_) rfl (by kernel_rfl) (by kernel_rfl) (by kernel_rfl) (fun _ _ _ h => h) (Or.inl ⟨by rfl, ?_⟩) (by assumption) ?_
            rotate_left
            · (intro w hSw; (try dsimp only at hSw); go_simp; try with_reducible rfl)
            try simp only [Act.put, List.setIfInBounds_toArray, List.set_cons_zero, List.set_cons_succ]
            refine wpAnyH_take (i := 27) (oi := ⟨some 121, _, _, _, _, _⟩) (v := ?_) rfl (by kernel_rfl) (by kernel_rfl) (by kernel_rfl) (fun _ _ _ h => h) (Or.inl ⟨by rfl, ?_⟩) (by assumption) ?_
            rotate_left
            · (intro w hSw; (try dsimp only at hSw); go_simp; try with_reducible rfl)
            try simp only [Act.put, List.setIfInBounds_toArray, List.set_cons_zero, List.set_cons_succ]
            refine wpAnyH_take (i := 28) (oi := ⟨some 122, _, _, _, _, _⟩) (v := ?_) rfl (by kernel_rfl) (by kernel_rfl) (by kernel_rfl) (fun _ _ _ h => h) (Or.inl ⟨by rfl, ?_⟩) (by assumption) ?_
            rotate_left
            · (intro w hSw; (try dsimp only at hSw); go_simp; try with_reducible rfl)
            try simp only [Act.put, List.setIfInBounds_toArray, List.set_cons_zero, List.set_cons_succ]
            refine wpAnyH_take (i := 29) (oi := ⟨some 123, _, _, _, _, _⟩) (v := ?_) rfl (by kernel_rfl) (by kernel_rfl) (by kernel_rfl) (fun _ _ _ h => h) (Or.inl ⟨by rfl, ?_⟩) (by assumption) ?_
            rotate_left
            · (intro w hSw; (try dsimp only at hSw); go_simp; try with_reducible rfl)
            try simp only [Act.put, List.setIfInBounds_toArray, List.set_cons_zero, List.set_cons_succ]
            refine wpAnyH_take (i := 30) (oi := ⟨some 124, _, _, _, _, _⟩) (v := ?_) rfl (by kernel_rfl) (by kernel_rfl) (by kernel_rfl) (fun _ _ _ h => h) (Or.inl ⟨by rfl, ?_⟩) (by assumption) ?_
            rotate_left
            · (intro w hSw; (try dsimp only at hSw); go_simp; try with_reducible rfl)
            try simp only [Act.put, List.setIfInBounds_toArray, List.set_cons_zero, List.set_cons_succ]
            refine wpAnyH_take (i := 31) (oi := ⟨some 125, _, _, _, _, _⟩) (v := ?_) rfl (by kernel_rfl) (by kernel_rfl) (by kernel_rfl) (fun _ _ _ h => h) (Or.inl ⟨by rfl, ?_⟩) (by assumption) ?_
            rotate_left
            · (intro w hSw; (try dsimp only at hSw); go_simp; try with_reducible rfl)
            try simp only [Act.put, List.setIfInBounds_toArray, List.set_cons_zero, List.set_cons_succ]
            refine wpAnyH_take (i := 32) (oi := ⟨some 126, _, _, _, _, _⟩) (v := ?_) rfl (by kernel_rfl) (by kernel_rfl) (by kernel_rfl) (fun _ _ _ h => h) (Or.inl ⟨by rfl, ?_⟩) (by assumption) ?_
            rotate_left
            · (intro w hSw; (try dsimp only at hSw); go_simp; try with_reducible rfl)
            try simp only [Act.put, List.setIfInBounds_toArray, List.set_cons_zero, List.set_cons_succ]
            refine wpAnyH_take (i := 33) (oi := ⟨some 127, _, _, _, _, _⟩) (v := ?_) rfl (by kernel_rfl) (by kernel_rfl) (by kernel_rfl) (fun _ _ _ h => h) (Or.inl ⟨by rfl, ?_⟩) (by assumption) ?_
            rotate_left
            · (intro w hSw; (try dsimp only at hSw); go_simp; try with_reducible rfl)
            try simp only [Act.put, List.setIfInBounds_toArray, List.set_cons_zero, List.set_cons_succ]
            refine wpAnyH_take (i := 34) (oi := ⟨some 128, _, _, _, _, _⟩) (v := ?_) rfl (by kernel_rfl) (by kernel_rfl) (by kernel_rfl) (fun _ _ _ h => h) (Or.inl ⟨by rfl, ?_⟩) (by assumption) ?_
            rotate_left
            · (intro w hSw; (try dsimp only at hSw); go_simp; try with_reducible rfl)
            try simp only [Act.put, List.setIfInBounds_toArray, List.set_cons_zero, List.set_cons_succ]
            refine wpAnyH_ready (rs := [23]) (by kernel_rfl) (by simp) ?_
            refine AllReadyH.cons (o := ⟨some 117, _, _, _, _, _⟩) rfl (fun K hK => ?_) AllReadyH.nil
            go_simp
            refine (hst.1.t.at_.hasP hP3 ⟨fk.toArray⟩ ds hfs2).mono ?_
            rintro e wx ⟨rfl, hBx⟩
            replace hst := And.intro (hst.1.below hBx) (hst.2.below hBx)
            rw [HHV.out]
            clear hBx
            go_wp2_with fail
            refine hK.out _ _ ?_ (fun hHeldX => ?_)
            · exact ⟨hst.1.t.box.at (o := 0) rfl, hst.1.t.box.at (o := 1) rfl, hst.1.x.at (o := 0) rfl, hst.1.x.at (o := 1) rfl, HX.out _ hst.1.low⟩
            clear hK K hHeld
            rename _ => hHeld
            try simp only [Act.put, List.setIfInBounds_toArray, List.set_cons_zero, List.set_cons_succ]
            refine wpAnyH_ready (rs := [35]) (by kernel_rfl) (by simp) ?_
            refine AllReadyH.cons (o := ⟨some 129, _, _, _, _, _⟩) rfl (fun K hK => ?_) AllReadyH.nil
            go_simp
            refine (rf_Place _ P' fk ds _ hst.1.r (by omega)).mono ?_
            rintro e wx ⟨rfl, hBx⟩
            replace hst := And.intro (hst.1.below hBx) (hst.2.below hBx)
            rw [HPV.out]
            clear hBx
            go_wp2_with fail
            refine hK.out _ _ ?_ (fun hHeldX => ?_)
            · exact ⟨hst.1.t.box.at (o := 0) rfl, hst.1.t.box.at (o := 1) rfl, hst.1.x.at (o := 0) rfl, hst.1.x.at (o := 1) rfl, HX.out _ hst.1.low⟩
            clear hK K hHeld
            rename _ => hHeld
            try simp only [Act.put, List.setIfInBounds_toArray, List.set_cons_zero, List.set_cons_succ]
            refine wpAnyH_take (i := 36) (oi := ⟨some 130, _, _, _, _, _⟩) (v := ?_) rfl (by kernel_rfl) (by kernel_rfl) (by kernel_rfl) (fun _ _ _ h => h) (Or.inl ⟨by rfl, ?_⟩) (by assumption) ?_
            rotate_left
            · (intro w hSw; (try dsimp only at hSw); go_simp; try with_reducible rfl)
            try simp only [Act.put, List.setIfInBounds_toArray, List.set_cons_zero, List.set_cons_succ]
            refine wpAnyH_take (i := 37) (oi := ⟨some 131, _, _, _, _, _⟩) (v := ?_) rfl (by kernel_rfl) (by kernel_rfl) (by kernel_rfl) (fun _ _ _ h => h) (Or.inl ⟨by rfl, ?_⟩) (by assumption) ?_
            rotate_left
            · (intro w hSw; (try dsimp only at hSw); go_simp; try with_reducible rfl)
            try simp only [Act.put, List.setIfInBounds_toArray, List.set_cons_zero, List.set_cons_succ]
            refine wpAnyH_take (i := 38) (oi := ⟨some 132, _, _, _, _, _⟩) (v := ?_) rfl (by kernel_rfl) (by kernel_rfl) (by kernel_rfl) (fun _ _ _ h => h) (Or.inl ⟨by rfl, ?_⟩) (by assumption) ?_
            rotate_left
            · (intro w hSw; (try dsimp only at hSw); go_simp; try with_reducible rfl)
            try simp only [Act.put, List.setIfInBounds_toArray, List.set_cons_zero, List.set_cons_succ]
            refine wpAnyH_take (i := 39) (oi := ⟨some 133, _, _, _, _, _⟩) (v := ?_) rfl (by kernel_rfl) (by kernel_rfl) (by kernel_rfl) (fun _ _ _ h => h) (Or.inl ⟨by rfl, ?_⟩) (by assumption) ?_
            rotate_left
            · (intro w hSw; (try dsimp only at hSw); go_simp; try with_reducible rfl)
            try simp only [Act.put, List.setIfInBounds_toArray, List.set_cons_zero, List.set_cons_succ]
            refine wpAnyH_take (i := 40) (oi := ⟨some 134, _, _, _, _, _⟩) (v := ?_) rfl (by kernel_rfl) (by kernel_rfl) (by kernel_rfl) (fun _ _ _ h => h) (Or.inl ⟨by rfl, ?_⟩) (by assumption) ?_
            rotate_left
            · (intro w hSw; (try dsimp only at hSw); go_simp; try with_reducible rfl)
            try simp only [Act.put, List.setIfInBounds_toArray, List.set_cons_zero, List.set_cons_succ]
            refine wpAnyH_take (i := 42) (oi := ⟨some 136, _, _, _, _, _⟩) (v := ?_) rfl (by kernel_rfl) (by kernel_rfl) (by kernel_rfl) (fun _ _ _ h => h) (Or.inl ⟨by rfl, ?_⟩) (by assumption) ?_
            rotate_left
            · (intro w hSw; (try dsimp only at hSw); go_simp; try with_reducible rfl)
            try simp only [Act.put, List.setIfInBounds_toArray, List.set_cons_zero, List.set_cons_succ]
            refine wpAnyH_ready (rs := [41]) (by kernel_rfl) (by simp) ?_
            refine AllReadyH.cons (o := ⟨some 135, _, _, _, _, _⟩) rfl (fun K hK => ?_) AllReadyH.nil
            go_simp
            refine (hst.1.t.at_.size hP3).mono ?_
            rintro e wx ⟨rfl, hBx⟩
            replace hst := And.intro (hst.1.below hBx) (hst.2.below hBx)
            clear hBx
            go_wp2_with fail
            refine hK.out _ _ ?_ (fun hHeldX => ?_)
            · exact ⟨hst.1.t.box.at (o := 0) rfl, hst.1.t.box.at (o := 1) rfl, hst.1.x.at (o := 0) rfl, hst.1.x.at (o := 1) rfl, HX.out _ hst.1.low⟩
            clear hK K hHeld
            rename _ => hHeld
            try simp only [Act.put, List.setIfInBounds_toArray, List.set_cons_zero, List.set_cons_succ]
            refine wpAnyH_ready (rs := [43]) (by kernel_rfl) (by simp) ?_
            refine AllReadyH.cons (o := ⟨some 137, _, _, _, _, _⟩) rfl (fun K hK => ?_) AllReadyH.nil
            go_simp
            refine (rf_Size _ P' _ hst.1.r (by omega) hst.1.t.at_.ok.filt).mono ?_
            rintro e wx ⟨n9, rfl, hsz, hBx⟩
            replace hst := And.intro (hst.1.below hBx) (hst.2.below hBx)
            obtain rfl := hsz.eq hst.1.t.at_.ok.size (fun _ => Iff.rfl)
            clear hsz
            clear hBx
            go_wp2_with fail
            refine hK.out _ _ ?_ (fun hHeldX => ?_)
            · exact ⟨hst.1.t.box.at (o := 0) rfl, hst.1.t.box.at (o := 1) rfl, hst.1.x.at (o := 0) rfl, hst.1.x.at (o := 1) rfl, HX.out _ hst.1.low⟩
            clear hK K hHeld
            rename _ => hHeld
            try simp only [Act.put, List.setIfInBounds_toArray, List.set_cons_zero, List.set_cons_succ]
            refine wpAnyH_take (i := 44) (oi := ⟨some 138, _, _, _, _, _⟩) (v := ?_) rfl (by kernel_rfl) (by kernel_rfl) (by kernel_rfl) (fun _ _ _ h => h) (Or.inl ⟨by rfl, ?_⟩) (by assumption) ?_
            rotate_left
            · (intro w hSw; (try dsimp only at hSw); go_simp; try with_reducible rfl)
            try simp only [Act.put, List.setIfInBounds_toArray, List.set_cons_zero, List.set_cons_succ]
            refine wpAnyH_take (i := 45) (oi := ⟨some 139, _, _, _, _, _⟩) (v := ?_) rfl (by kernel_rfl) (by kernel_rfl) (by kernel_rfl) (fun _ _ _ h => h) (Or.inl ⟨by rfl, ?_⟩) (by assumption) ?_
            rotate_left
            · (intro w hSw; (try dsimp only at hSw); go_simp; try with_reducible rfl)
            try simp only [Act.put, List.setIfInBounds_toArray, List.set_cons_zero, List.set_cons_succ]
            refine wpAnyH_take (i := 46) (oi := ⟨some 140, _, _, _, _, _⟩) (v := ?_) rfl (by kernel_rfl) (by kernel_rfl) (by kernel_rfl) (fun _ _ _ h => h) (Or.inl ⟨by rfl, ?_⟩) (by assumption) ?_
            rotate_left
            · (intro w hSw; (try dsimp only at hSw); go_simp; try with_reducible rfl)
            try simp only [Act.put, List.setIfInBounds_toArray, List.set_cons_zero, List.set_cons_succ]
            refine wpAnyH_take (i := 47) (oi := ⟨some 141, _, _, _, _, _⟩) (v := ?_) rfl (by kernel_rfl) (by kernel_rfl) (by kernel_rfl) (fun _ _ _ h => h) (Or.inl ⟨by rfl, ?_⟩) (by assumption) ?_
            rotate_left
            · (intro w hSw; (try dsimp only at hSw); go_simp; try with_reducible rfl)
            try simp only [Act.put, List.setIfInBounds_toArray, List.set_cons_zero, List.set_cons_succ]
            refine wpAnyH_take (i := 48) (oi := ⟨some 142, _, _, _, _, _⟩) (v := ?_) rfl (by kernel_rfl) (by kernel_rfl) (by kernel_rfl) (fun _ _ _ h => h) (Or.inl ⟨by rfl, ?_⟩) (by assumption) ?_
            rotate_left
            · (intro w hSw; (try dsimp only at hSw); go_simp; try with_reducible rfl)
            try simp only [Act.put, List.setIfInBounds_toArray, List.set_cons_zero, List.set_cons_succ]
            refine wpAnyH_take (i := 51) (oi := ⟨some 145, _, _, _, _, _⟩) (v := ?_) rfl (by kernel_rfl) (by kernel_rfl) (by kernel_rfl) (fun _ _ _ h => h) (Or.inl ⟨by rfl, ?_⟩) (by assumption) ?_
            rotate_left
            · (intro w hSw; (try dsimp only at hSw); go_simp; try with_reducible rfl)
            try simp only [Act.put, List.setIfInBounds_toArray, List.set_cons_zero, List.set_cons_succ]
            refine wpAnyH_take (i := 52) (oi := ⟨some 146, _, _, _, _, _⟩) (v := ?_) rfl (by kernel_rfl) (by kernel_rfl) (by kernel_rfl) (fun _ _ _ h => h) (Or.inl ⟨by rfl, ?_⟩) (by assumption) ?_
            rotate_left
            · (intro w hSw; (try dsimp only at hSw); go_simp; try with_reducible rfl)
            try simp only [Act.put, List.setIfInBounds_toArray, List.set_cons_zero, List.set_cons_succ]
            refine wpAnyH_ready (rs := [49]) (by kernel_rfl) (by simp) ?_
            refine AllReadyH.cons (o := ⟨some 143, _, _, _, _, _⟩) rfl (fun K hK => ?_) AllReadyH.nil
            go_simp
            refine (hst.1.t.at_.mat hP3 t).mono ?_
            rintro e wx ⟨r1, rfl, hs1, hBx⟩
            replace hst := And.intro (hst.1.below hBx) (hst.2.below hBx)
            clear hBx
            go_wp2_with fail
            refine hK.out _ _ ?_ (fun hHeldX => ?_)
            · exact ⟨hst.1.t.box.at (o := 0) rfl, hst.1.t.box.at (o := 1) rfl, hst.1.x.at (o := 0) rfl, hst.1.x.at (o := 1) rfl, HX.out _ hst.1.low⟩
            clear hK K hHeld
            rename _ => hHeld
            try simp only [Act.put, List.setIfInBounds_toArray, List.set_cons_zero, List.set_cons_succ]
            refine wpAnyH_ready (rs := [50]) (by kernel_rfl) (by simp) ?_
            refine AllReadyH.cons (o := ⟨some 144, _, _, _, _, _⟩) rfl (fun K hK => ?_) AllReadyH.nil
            go_simp
            refine (list13 r1 _ _ hs1 (by have := mz_len P' t.data.toList; omega)).mono ?_
            rintro e wx ⟨r2, rfl, hn2, hBx⟩
            replace hst := And.intro (hst.1.below hBx) (hst.2.below hBx)
            clear hs1
            clear hBx
            go_wp2_with fail
            refine hK.out _ _ ?_ (fun hHeldX => ?_)
            · exact ⟨hst.1.t.box.at (o := 0) rfl, hst.1.t.box.at (o := 1) rfl, hst.1.x.at (o := 0) rfl, hst.1.x.at (o := 1) rfl, HX.out _ hst.1.low⟩
            clear hK K hHeld
            rename _ => hHeld
            try simp only [Act.put, List.setIfInBounds_toArray, List.set_cons_zero, List.set_cons_succ]
            refine wpAnyH_ready (rs := [53]) (by kernel_rfl) (by simp) ?_
            refine AllReadyH.cons (o := ⟨some 147, _, _, _, _, _⟩) rfl (fun K hK => ?_) AllReadyH.nil
            go_simp
            refine (rf_Match _ P' t _ hst.1.r (by omega) (fun p hp => by have := (bytesOk_len (filterZ_bytes (hst.1.t.at_.ok.filt p hp))).2; omega) hts).mono ?_
            rintro e wx ⟨r3, rfl, hn3, hBx⟩
            replace hst := And.intro (hst.1.below hBx) (hst.2.below hBx)
            replace hn2 := hn2.below hBx
            clear hBx
            go_wp2_with fail
            refine hK.out _ _ ?_ (fun hHeldX => ?_)
            · exact ⟨hst.1.t.box.at (o := 0) rfl, hst.1.t.box.at (o := 1) rfl, hst.1.x.at (o := 0) rfl, hst.1.x.at (o := 1) rfl, HX.out _ hst.1.low⟩
            clear hK K hHeld
            rename _ => hHeld
            try simp only [Act.put, List.setIfInBounds_toArray, List.set_cons_zero, List.set_cons_succ]
            refine wpAnyH_ready (rs := [54]) (by kernel_rfl) (by simp) ?_
            refine AllReadyH.cons (o := ⟨some 148, _, _, _, _, _⟩) rfl (fun K hK => ?_) AllReadyH.nil
            go_simp
            refine (ref_Ints _ _ _ _ _ hn2 hn3 (by have := mz_len P' t.data.toList; omega) (by have := mz_len P' t.data.toList; omega)).mono ?_
            rintro e wx ⟨rfl, hBx⟩
            replace hst := And.intro (hst.1.below hBx) (hst.2.below hBx)
            rw [decide_eq_true rfl]
            clear hn2 hn3
            clear hBx
            go_wp2_with fail
            refine hK.out _ _ ?_ (fun hHeldX => ?_)
            · exact ⟨hst.1.t.box.at (o := 0) rfl, hst.1.t.box.at (o := 1) rfl, hst.1.x.at (o := 0) rfl, hst.1.x.at (o := 1) rfl, HX.out _ hst.1.low⟩
            clear hK K hHeld
            rename _ => hHeld
            try simp only [Act.put, List.setIfInBounds_toArray, List.set_cons_zero, List.set_cons_succ]
            refine wpAnyH_take (i := 55) (oi := ⟨some 149, _, _, _, _, _⟩) (v := ?_) rfl (by kernel_rfl) (by kernel_rfl) (by kernel_rfl) (fun _ _ _ h => h) (Or.inl ⟨by rfl, ?_⟩) (by assumption) ?_
            rotate_left
            · (intro w hSw; (try dsimp only at hSw); go_simp; try with_reducible rfl)
            try simp only [Act.put, List.setIfInBounds_toArray, List.set_cons_zero, List.set_cons_succ]
            refine wpAnyH_take (i := 56) (oi := ⟨some 150, _, _, _, _, _⟩) (v := ?_) rfl (by kernel_rfl) (by kernel_rfl) (by kernel_rfl) (fun _ _ _ h => h) (Or.inl ⟨by rfl, ?_⟩) (by assumption) ?_
            rotate_left
            · (intro w hSw; (try dsimp only at hSw); go_simp; try with_reducible rfl)
            try simp only [Act.put, List.setIfInBounds_toArray, List.set_cons_zero, List.set_cons_succ]
            refine wpAnyH_done (by kernel_rfl) ?_ _
            refine NoPanic.normal ?_
            have HE18 := Lib.hid hst
            have HNA : Hid (na = P.length) := Lib.hid hst.2.lens
            clear hst hHeld HHV HPV hpv
            go_upto_region 20 with fail
            have hst := And.intro (HE18.out.1.below (W := wx.drew) (Below.refl _ _).drew) (HE18.out.2.below (W := wx.drew) (Below.refl _ _).drew)
            clear HE18
            refine wp_region_noPanic ?_
            refine wp_region_held_drew (S := (fun w' => w'.cell? ⟨B, 0, none⟩ = some (.pointer q) ∧ w'.cell? ⟨B, 1, none⟩ = some (.int .i64 (n : Int)) ∧ w'.cell? ⟨C, 0, none⟩ = some (.slice a na ca) ∧ w'.cell? ⟨C, 1, none⟩ = some (.slice b nb cb))) (by kernel_rfl) ?_ (fun hHeld => ?_)
            · exact ⟨hst.2.t.box.at (o := 0) rfl, hst.2.t.box.at (o := 1) rfl, hst.2.x.at (o := 0) rfl, hst.2.x.at (o := 1) rfl⟩
            refine wpAnyH_take (i := 0) (oi := ⟨some 151, _, _, _, _, _⟩) (v := ?_) rfl (by kernel_rfl) (by kernel_rfl) (by kernel_rfl) (fun _ _ _ h => h) (Or.inl ⟨by rfl, ?_⟩) (by assumption) ?_
            rotate_left
            · (intro w hSw; (try dsimp only at hSw); go_simp; try with_reducible rfl)
            try simp only [Act.put, List.setIfInBounds_toArray, List.set_cons_zero, List.set_cons_succ]
            refine wpAnyH_take (i := 2) (oi := ⟨some 153, _, _, _, _, _⟩) (v := ?_) rfl (by kernel_rfl) (by kernel_rfl) (by kernel_rfl) (fun _ _ _ h => h) (Or.inl ⟨by rfl, ?_⟩) (by assumption) ?_
            rotate_left
            · (intro w hSw; (try dsimp only at hSw); go_simp; try with_reducible rfl)
            try simp only [Act.put, List.setIfInBounds_toArray, List.set_cons_zero, List.set_cons_succ]
            refine wpAnyH_take (i := 3) (oi := ⟨some 154, _, _, _, _, _⟩) (v := ?_) rfl (by kernel_rfl) (by kernel_rfl) (by kernel_rfl) (fun _ _ _ h => h) (Or.inl ⟨by rfl, ?_⟩) (by assumption) ?_
            rotate_left
            · (intro w hSw; (try dsimp only at hSw); go_simp; try with_reducible rfl)
            try simp only [Act.put, List.setIfInBounds_toArray, List.set_cons_zero, List.set_cons_succ]
            refine wpAnyH_take (i := 4) (oi := ⟨some 155, _, _, _, _, _⟩) (v := ?_) rfl (by kernel_rfl) (by kernel_rfl) (by kernel_rfl) (fun _ _ _ h => h) (Or.inl ⟨by rfl, ?_⟩) (by assumption) ?_
            rotate_left
            · (intro w hSw; (try dsimp only at hSw); go_simp; try with_reducible rfl)
            try simp only [Act.put, List.setIfInBounds_toArray, List.set_cons_zero, List.set_cons_succ]
            refine wpAnyH_ready (rs := [1]) (by kernel_rfl) (by simp) ?_
            refine AllReadyH.cons (o := ⟨some 152, _, _, _, _, _⟩) rfl (fun K hK => ?_) AllReadyH.nil
            go_simp
            refine (hst.2.t.at_.len).mono ?_
            rintro e wx ⟨rfl, hBx⟩
            replace hst := And.intro (hst.1.below hBx) (hst.2.below hBx)
            rw [← HNA.out]
            clear hBx
            go_wp2_with fail
            refine hK.out _ _ ?_ (fun hHeldX => ?_)
            · exact ⟨hst.2.t.box.at (o := 0) rfl, hst.2.t.box.at (o := 1) rfl, hst.2.x.at (o := 0) rfl, hst.2.x.at (o := 1) rfl⟩
            clear hK K hHeld
            rename _ => hHeld
            try simp only [Act.put, List.setIfInBounds_toArray, List.set_cons_zero, List.set_cons_succ]
            refine wpAnyH_take (i := 5) (oi := ⟨some 156, _, _, _, _, _⟩) (v := ?_) rfl (by kernel_rfl) (by kernel_rfl) (by kernel_rfl) (fun _ _ _ h => h) (Or.inl ⟨by rfl, ?_⟩) (by assumption) ?_
            rotate_left
            · (intro w hSw; (try dsimp only at hSw); go_simp; try with_reducible rfl)
            try simp only [Act.put, List.setIfInBounds_toArray, List.set_cons_zero, List.set_cons_succ]
            refine wpAnyH_take (i := 6) (oi := ⟨some 157, _, _, _, _, _⟩) (v := ?_) rfl (by kernel_rfl) (by kernel_rfl) (by kernel_rfl) (fun _ _ _ h => h) (Or.inl ⟨by rfl, ?_⟩) (by assumption) ?_
            rotate_left
            · (intro w hSw; (try dsimp only at hSw); go_simp; try with_reducible rfl)
            try simp only [Act.put, List.setIfInBounds_toArray, List.set_cons_zero, List.set_cons_succ]
            refine wpAnyH_take (i := 7) (oi := ⟨some 158, _, _, _, _, _⟩) (v := ?_) rfl (by kernel_rfl) (by kernel_rfl) (by kernel_rfl) (fun _ _ _ h => h) (Or.inl ⟨by rfl, ?_⟩) (by assumption) ?_
            rotate_left
            · (intro w hSw; (try dsimp only at hSw); go_simp; try with_reducible rfl)
            try simp only [Act.put, List.setIfInBounds_toArray, List.set_cons_zero, List.set_cons_succ]
            refine wpAnyH_take (i := 9) (oi := ⟨some 160, _, _, _, _, _⟩) (v := ?_) rfl (by kernel_rfl) (by kernel_rfl) (by kernel_rfl) (fun _ _ _ h => h) (Or.inl ⟨by rfl, ?_⟩) (by assumption) ?_
            rotate_left
            · (intro w hSw; (try dsimp only at hSw); go_simp; try with_reducible rfl)
            try simp only [Act.put, List.setIfInBounds_toArray, List.set_cons_zero, List.set_cons_succ]
            refine wpAnyH_ready (rs := [8]) (by kernel_rfl) (by simp) ?_
            refine AllReadyH.cons (o := ⟨some 159, _, _, _, _, _⟩) rfl (fun K hK => ?_) AllReadyH.nil
            go_simp
            refine (hst.2.t.at_.size hP).mono ?_
            rintro e wx ⟨rfl, hBx⟩
            replace hst := And.intro (hst.1.below hBx) (hst.2.below hBx)
            clear hBx
            go_wp2_with fail
            refine hK.out _ _ ?_ (fun hHeldX => ?_)
            · exact ⟨hst.2.t.box.at (o := 0) rfl, hst.2.t.box.at (o := 1) rfl, hst.2.x.at (o := 0) rfl, hst.2.x.at (o := 1) rfl⟩
            clear hK K hHeld
            rename _ => hHeld
            try simp only [Act.put, List.setIfInBounds_toArray, List.set_cons_zero, List.set_cons_succ]
            refine wpAnyH_ready (rs := [10]) (by kernel_rfl) (by simp) ?_
            refine AllReadyH.cons (o := ⟨some 161, _, _, _, _, _⟩) rfl (fun K hK => ?_) AllReadyH.nil
            go_simp
            refine (rf_Size _ P _ hst.2.r (by omega) hst.2.t.at_.ok.filt).mono ?_
            rintro e wx ⟨n9, rfl, hsz, hBx⟩
            replace hst := And.intro (hst.1.below hBx) (hst.2.below hBx)
            obtain rfl := hsz.eq hst.2.t.at_.ok.size (fun _ => Iff.rfl)
            clear hsz
            clear hBx
            go_wp2_with fail
            refine hK.out _ _ ?_ (fun hHeldX => ?_)
            · exact ⟨hst.2.t.box.at (o := 0) rfl, hst.2.t.box.at (o := 1) rfl, hst.2.x.at (o := 0) rfl, hst.2.x.at (o := 1) rfl⟩
            clear hK K hHeld
            rename _ => hHeld
            try simp only [Act.put, List.setIfInBounds_toArray, List.set_cons_zero, List.set_cons_succ]
            refine wpAnyH_take (i := 11) (oi := ⟨some 162, _, _, _, _, _⟩) (v := ?_) rfl (by kernel_rfl) (by kernel_rfl) (by kernel_rfl) (fun _ _ _ h => h) (Or.inl ⟨by rfl, ?_⟩) (by assumption) ?_
            rotate_left
            · (intro w hSw; (try dsimp only at hSw); go_simp; try with_reducible rfl)
            try simp only [Act.put, List.setIfInBounds_toArray, List.set_cons_zero, List.set_cons_succ]
            refine wpAnyH_take (i := 12) (oi := ⟨some 163, _, _, _, _, _⟩) (v := ?_) rfl (by kernel_rfl) (by kernel_rfl) (by kernel_rfl) (fun _ _ _ h => h) (Or.inl ⟨by rfl, ?_⟩) (by assumption) ?_
            rotate_left
            · (intro w hSw; (try dsimp only at hSw); go_simp; try with_reducible rfl)
            try simp only [Act.put, List.setIfInBounds_toArray, List.set_cons_zero, List.set_cons_succ]
            refine wpAnyH_take (i := 13) (oi := ⟨some 164, _, _, _, _, _⟩) (v := ?_) rfl (by kernel_rfl) (by kernel_rfl) (by kernel_rfl) (fun _ _ _ h => h) (Or.inl ⟨by rfl, ?_⟩) (by assumption) ?_
            rotate_left
            · (intro w hSw; (try dsimp only at hSw); go_simp; try with_reducible rfl)
            try simp only [Act.put, List.setIfInBounds_toArray, List.set_cons_zero, List.set_cons_succ]
            refine wpAnyH_take (i := 14) (oi := ⟨some 165, _, _, _, _, _⟩) (v := ?_) rfl (by kernel_rfl) (by kernel_rfl) (by kernel_rfl) (fun _ _ _ h => h) (Or.inl ⟨by rfl, ?_⟩) (by assumption) ?_
            rotate_left
            · (intro w hSw; (try dsimp only at hSw); go_simp; try with_reducible rfl)
            try simp only [Act.put, List.setIfInBounds_toArray, List.set_cons_zero, List.set_cons_succ]
            refine wpAnyH_take (i := 15) (oi := ⟨some 166, _, _, _, _, _⟩) (v := ?_) rfl (by kernel_rfl) (by kernel_rfl) (by kernel_rfl) (fun _ _ _ h => h) (Or.inl ⟨by rfl, ?_⟩) (by assumption) ?_
            rotate_left
            · (intro w hSw; (try dsimp only at hSw); go_simp; try with_reducible rfl)
            try simp only [Act.put, List.setIfInBounds_toArray, List.set_cons_zero, List.set_cons_succ]
            refine wpAnyH_take (i := 18) (oi := ⟨some 169, _, _, _, _, _⟩) (v := ?_) rfl (by kernel_rfl) (by kernel_rfl) (by kernel_rfl) (fun _ _ _ h => h) (Or.inl ⟨by rfl, ?_⟩) (by assumption) ?_
            rotate_left
            · (intro w hSw; (try dsimp only at hSw); go_simp; try with_reducible rfl)
            try simp only [Act.put, List.setIfInBounds_toArray, List.set_cons_zero, List.set_cons_succ]
            refine wpAnyH_take (i := 19) (oi := ⟨some 170, _, _, _, _, _⟩) (v := ?_) rfl (by kernel_rfl) (by kernel_rfl) (by kernel_rfl) (fun _ _ _ h => h) (Or.inl ⟨by rfl, ?_⟩) (by assumption) ?_
            rotate_left
            · (intro w hSw; (try dsimp only at hSw); go_simp; try with_reducible rfl)
            try simp only [Act.put, List.setIfInBounds_toArray, List.set_cons_zero, List.set_cons_succ]
            refine wpAnyH_ready (rs := [16]) (by kernel_rfl) (by simp) ?_
            refine AllReadyH.cons (o := ⟨some 167, _, _, _, _, _⟩) rfl (fun K hK => ?_) AllReadyH.nil
            go_simp
            refine (hst.2.t.at_.mat hP t).mono ?_
            rintro e wx ⟨r1, rfl, hs1, hBx⟩
            replace hst := And.intro (hst.1.below hBx) (hst.2.below hBx)
            clear hBx
            go_wp2_with fail
            refine hK.out _ _ ?_ (fun hHeldX => ?_)
            · exact ⟨hst.2.t.box.at (o := 0) rfl, hst.2.t.box.at (o := 1) rfl, hst.2.x.at (o := 0) rfl, hst.2.x.at (o := 1) rfl⟩
            clear hK K hHeld
            rename _ => hHeld
            try simp only [Act.put, List.setIfInBounds_toArray, List.set_cons_zero, List.set_cons_succ]
            refine wpAnyH_ready (rs := [17]) (by kernel_rfl) (by simp) ?_
            refine AllReadyH.cons (o := ⟨some 168, _, _, _, _, _⟩) rfl (fun K hK => ?_) AllReadyH.nil
            go_simp
            refine (list13 r1 _ _ hs1 (by have := mz_len P t.data.toList; omega)).mono ?_
            rintro e wx ⟨r2, rfl, hn2, hBx⟩
            replace hst := And.intro (hst.1.below hBx) (hst.2.below hBx)
            clear hs1
            clear hBx
            go_wp2_with fail
            refine hK.out _ _ ?_ (fun hHeldX => ?_)
            · exact ⟨hst.2.t.box.at (o := 0) rfl, hst.2.t.box.at (o := 1) rfl, hst.2.x.at (o := 0) rfl, hst.2.x.at (o := 1) rfl⟩
            clear hK K hHeld
            rename _ => hHeld
            try simp only [Act.put, List.setIfInBounds_toArray, List.set_cons_zero, List.set_cons_succ]
            refine wpAnyH_ready (rs := [20]) (by kernel_rfl) (by simp) ?_
            refine AllReadyH.cons (o := ⟨some 171, _, _, _, _, _⟩) rfl (fun K hK => ?_) AllReadyH.nil
            go_simp
            refine (rf_Match _ P t _ hst.2.r (by omega) (fun p hp => by have := (bytesOk_len (filterZ_bytes (hst.2.t.at_.ok.filt p hp))).2; omega) hts).mono ?_
            rintro e wx ⟨r3, rfl, hn3, hBx⟩
            replace hst := And.intro (hst.1.below hBx) (hst.2.below hBx)
            replace hn2 := hn2.below hBx
            clear hBx
            go_wp2_with fail
            refine hK.out _ _ ?_ (fun hHeldX => ?_)
            · exact ⟨hst.2.t.box.at (o := 0) rfl, hst.2.t.box.at (o := 1) rfl, hst.2.x.at (o := 0) rfl, hst.2.x.at (o := 1) rfl⟩
            clear hK K hHeld
            rename _ => hHeld
            try simp only [Act.put, List.setIfInBounds_toArray, List.set_cons_zero, List.set_cons_succ]
            refine wpAnyH_ready (rs := [21]) (by kernel_rfl) (by simp) ?_
            refine AllReadyH.cons (o := ⟨some 172, _, _, _, _, _⟩) rfl (fun K hK => ?_) AllReadyH.nil
            go_simp
            refine (ref_Ints _ _ _ _ _ hn2 hn3 (by have := mz_len P t.data.toList; omega) (by have := mz_len P t.data.toList; omega)).mono ?_
            rintro e wx ⟨rfl, hBx⟩
            replace hst := And.intro (hst.1.below hBx) (hst.2.below hBx)
            rw [decide_eq_true rfl]
            clear hn2 hn3
            clear hBx
            go_wp2_with fail
            refine hK.out _ _ ?_ (fun hHeldX => ?_)
            · exact ⟨hst.2.t.box.at (o := 0) rfl, hst.2.t.box.at (o := 1) rfl, hst.2.x.at (o := 0) rfl, hst.2.x.at (o := 1) rfl⟩
            clear hK K hHeld
            rename _ => hHeld
            try simp only [Act.put, List.setIfInBounds_toArray, List.set_cons_zero, List.set_cons_succ]
            refine wpAnyH_take (i := 22) (oi := ⟨some 173, _, _, _, _, _⟩) (v := ?_) rfl (by kernel_rfl) (by kernel_rfl) (by kernel_rfl) (fun _ _ _ h => h) (Or.inl ⟨by rfl, ?_⟩) (by assumption) ?_
            rotate_left
            · (intro w hSw; (try dsimp only at hSw); go_simp; try with_reducible rfl)
            try simp only [Act.put, List.setIfInBounds_toArray, List.set_cons_zero, List.set_cons_succ]
            refine wpAnyH_take (i := 23) (oi := ⟨some 174, _, _, _, _, _⟩) (v := ?_) rfl (by kernel_rfl) (by kernel_rfl) (by kernel_rfl) (fun _ _ _ h => h) (Or.inl ⟨by rfl, ?_⟩) (by assumption) ?_
            rotate_left
            · (intro w hSw; (try dsimp only at hSw); go_simp; try with_reducible rfl)
            try simp only [Act.put, List.setIfInBounds_toArray, List.set_cons_zero, List.set_cons_succ]
            refine wpAnyH_done (by kernel_rfl) ?_ _
            refine NoPanic.normal ?_
            have HE := Lib.hid hst.1
            clear hst hHeld
            go_wp2_with fail
            go_roundg (gk - 1)
            case measure => omega
            case rel => exact ⟨k + 1, _, _, _, P', _, _, _, _, _, _, by omega, by go_num, by omega, HE⟩
      · obtain rfl : k = D.length := by omega
        have hge : ¬ ((D.length : Int) < (D.length : Int)) := by omega
        have B9 := Lib.hid (below_step B1.out ST.out.low)
        go_wp2
        go_ret
        exact ⟨rfl, B9.out⟩
end Go.Proofs.YtmfejpbijllojaaGreat
