/- Layer 14 (package walk): Of. Made by tools/gen_of14.py. · Slices of numbers, of yes and no, and of texts among a law's arguments, opened as lists. Whatever program. -/
import Derived.Test.YtabgedmocdjkcaaWith14
import Derived.Test.YtabgedmocdjkcaaJoin4
import Derived.Test.YtabgedmocdjkcaaJoin1
import Derived.ChangeSlices
import Derived.Deep.Grids
import Derived.SliceStrings
namespace Go.Proofs.Ytabgedmocdjkcaa
open Go.RowKit Go.Shelf

/-- Where Of stands: its box; the node; its blocks are the loop's own. -/
structure OfS (B : Nat) (C1 : Nat → Prop) (pre : List Pr) (Wx : World) : Prop where
  own : C1 B
  ex : ∃ o, Boxed Wx B 27 (ndP o) ∧ WTr o pre ∧ NodeIs (fun k => ¬ C1 k ∨ k = B) Wx o
theorem OfS.stab {B : Nat} : Stab (OfS B) := by
  rintro C s Wx Wy ⟨own, o, hb, hc, hn⟩ hw ho
  exact ⟨own, o, boxO hb ho fun h => h own, hc, hn.turn ho (fun k h => .inl h) fun k _ h => h⟩
attribute [local go_sem] Oper.semAt_some
set_option maxRecDepth 100000 in
set_option maxHeartbeats 4000000 in
theorem walk_Of {g : Nat} {lb : Array Value} {A : Nat → Prop} {P : List Pr} {W : World} (hen : ∀ args w, (callFunc g args).run Try.prog w = .ok (.enter g args) w) (hnil : ∀ w, Sem.run Try.prog (binOp BinOp.eql 39 (.func (.func g) #[] lb) Value.nilFunc) w = .ok (.bool false) w)
    (hseq : SeqO Try.prog g lb encPr A (fun xs => xs = P) (fun pre => pre <+: P) W) (hP : P.length ≤ 200) (hPl : ∀ x ∈ P, x.1.length ≤ 100) :
    Calls Try.prog 16 #[.func (.func g) #[] lb] W fun e w' => ∃ o, e = .returned (ndP o) ∧ WTr o P ∧ NodeIs (fun _ => False) w' o ∧ Below W.heap.size W w' := by
  refine (callsIn_wide (n := 9)).1 ?_
  refine callsIn_of_wp_marks Try.func16 rfl trivial ?_ rfl
  simp only [Try.ntmps16, List.size_toArray, List.length_cons, List.length_nil, Nat.reduceAdd, Nat.reduceSub, Array.replicate_succ, Array.replicate_zero, List.push_toArray, List.append_toArray, List.nil_append, List.cons_append]
  obtain ⟨W1, hW1⟩ : ∃ W1, W1 = W.alloc (.cells #[.pointer none] 27) := ⟨_, rfl⟩
  have b1 : Boxed W1 W.heap.size 27 (ndP none) := by rw [hW1]; exact Boxed.new _ _ _
  have B1 : Below W.heap.size W W1 := by rw [hW1]; exact new_below _ _
  have z1 : W1.heap.size = W.heap.size + 1 := by rw [hW1]; simp
  gi_wp2_with fail
  try rw [← hW1]
  clear hW1
  refine wpIn_rangeO (by omega) (gf := g) (lb := lb) rfl hen
    hseq B1 (fun _ => rfl)
    (OfS W.heap.size)
    (fun _ _ _ _ => False)
    ?hI ?hIx (fun k => k = W.heap.size) ?hC ?hw ?h0
    (fun x => { tmps := #[.func (.func g) #[] lb, undef, .pointer none, .pointer (some ⟨W.heap.size, 0, none⟩), strV x.1, .int .i64 x.2, .func (.func g) #[] lb, .bool false, .func (.func g) #[] lb, strV x.1, .int .i64 x.2, undef, undef, undef, undef, undef, undef, undef, undef], defers := [] }) ?assign ?body ?done ?stop
  case hI => exact OfS.stab
  case hIx => exact fun _ _ _ _ _ h _ _ => h
  case hC => rintro k rfl; exact .inr (Nat.le_refl _)
  case hw => rintro k rfl; omega
  case h0 => exact ⟨rfl, none, b1, wtr_nil, trivial⟩
  case assign =>
    intro l2 x Wx K hK
    gi_wp2
    exact hK
  case body =>
    rintro l2 C1 pre x Wx hpx ⟨own, o, hb, hc, hn⟩ hg ho hw
    have hlt : pre.length < 200 := by
      have h1 := hpx.length_le
      rw [List.length_append, List.length_singleton] at h1; omega
    have hxP : x.1.length ≤ 100 := hPl x (hpx.subset (by simp))
    obtain ⟨xt, xs⟩ := x
    dsimp only at hxP
    rw [show strV (xt, xs).1 = Value.string ⟨xt.toArray⟩ from rfl]
    clear hpx hPl hseq
    by_cases hx : xt = []
    · subst hx
      have hws := wtr_skip hc xs
      have HE := Lib.hid (And.intro own (And.intro hb (And.intro hws hn)))
      clear hc hn hws
      gi_wp2
      exact ⟨_, Grow.refl _ _, Only.refl _ _, hw, HE.out.1, o, HE.out.2.1, HE.out.2.2.1, HE.out.2.2.2⟩
    · have hxb : List.isEmpty xt = false := by cases xt with
        | nil => exact absurd rfl hx
        | cons => rfl
      obtain ⟨q, hq⟩ := nd_form o
      have CK : Hid (∀ w, Below Wx.heap.size Wx w → Boxed w W.heap.size 27 (.pointer q)) := Lib.hid fun w h => by
        rw [← hq]; exact boxed_below hb h hb.lt
      have hS : NodeIs (fun k => Wx.heap.size ≤ k ∨ (k < Wx.heap.size ∧ (¬ C1 k ∨ k = W.heap.size))) Wx o := hn.turn (Only.refl (fun _ => False) _) (fun _ h => h.elim) fun k hk h => h.elim (fun h => by omega) fun h => h.2
      have hlv := lv_length xt
      have hcnt : xt.count 47 ≤ xt.length := List.count_le_length
      have hLv : Hid (∀ w, Calls Try.prog 27 #[.string ⟨xt.toArray⟩] w fun e w' => ∃ g cap, e = .returned (.slice (some ⟨g, 0, none⟩) (lv xt).length cap) ∧ w.heap.size ≤ g ∧ g < w'.heap.size ∧
          (∀ (i : Nat) x, (lv xt)[i]? = some x → w'.cell? ⟨g, i, none⟩ = some (.string ⟨x.toArray⟩)) ∧ Below w.heap.size w w') := Lib.hid fun w =>
        topic_Levels_cells ⟨xt.toArray⟩ w (by show xt.toArray.size ≤ _; simp; omega)
      have HWI : Hid (∀ (w : World) (g cap : Nat), Below Wx.heap.size Wx w → Wx.heap.size ≤ g → g < w.heap.size → (∀ (i : Nat) x, (lv xt)[i]? = some x → w.cell? ⟨g, i, none⟩ = some (.string ⟨x.toArray⟩)) →
          Calls Try.prog 26 #[.pointer q, .slice (some ⟨g, 0, none⟩) (lv xt).length cap, .int .i64 xs] w fun e w' => ∃ bn L F, e = .returned (.pointer (some ⟨bn, 0, none⟩)) ∧ Chg (withZ xs) (lv xt) o (some (bn, L, F)) ∧ NodeIs (fun k => k < Wx.heap.size ∧ (¬ C1 k ∨ k = W.heap.size)) w' (some (bn, L, F)) ∧ Below w.heap.size w w') := Lib.hid fun w g cap h1 h2 h3 h4 => by
        rw [← hq]
        have hz := h1.size
        have s1 := hc.size
        refine (walk_with (x := xs) (hS.below h1) hz (fun k hk => Nat.lt_of_lt_of_le hk.1 hz) hc.ok (by omega) (fun p => by have := hc.len p; omega) (fun i y hy => ⟨g, 0, rfl, h3, by rw [Nat.zero_add]; exact h4 i y hy⟩) (fun b off e => by cases e; exact ⟨h2, h3⟩)).mono ?_
        rintro e w' ⟨o', rfl, hch, hnd, hbl⟩
        obtain ⟨bn, L, F, rfl⟩ := chg_some0 hch
        exact ⟨bn, L, F, rfl, hch, hnd, hbl⟩
      have HEND : Hid (∀ w w' bn L F, Below Wx.heap.size Wx w → Chg (withZ xs) (lv xt) o (some (bn, L, F)) → NodeIs (fun k => k < Wx.heap.size ∧ (¬ C1 k ∨ k = W.heap.size)) w (some (bn, L, F)) → w' = w.setCell ⟨W.heap.size, 0, none⟩ (.pointer (some ⟨bn, 0, none⟩)) →
          ∃ C', Grow C1 C' Wx ∧ Only C1 Wx w' ∧ Wn C' w' ∧ OfS W.heap.size C' (pre ++ [(xt, xs)]) w') := Lib.hid fun w w' bn L F hbl hch hnd hw' => by
        have o2 : Only (fun k => k = W.heap.size) w w' := by rw [hw']; exact (Only.refl (fun k => k = W.heap.size) w).setCell (p := ⟨W.heap.size, 0, none⟩) (.inl rfl) _
        have oA : Only (fun k => k = W.heap.size) Wx w' := (Only.of_below hbl _).trans o2
        have zb := hbl.size
        have z2 := o2.size
        have zB := hb.lt
        refine ⟨fun k => C1 k ∨ (Wx.heap.size ≤ k ∧ k < w'.heap.size), fun k hk => hk.imp id fun h => h.1, oA.mono fun k _ e => e ▸ own, fun k hk => hk.elim (fun h => by have := hw k h; omega) fun h => h.2, .inl own, _, ?_, wtr_put hc hx hxP hch, hnd.turn o2 (fun k e => ⟨by omega, .inr e⟩) fun k hk h => ?_⟩
        · rw [hw']
          exact (boxed_below hb hbl hb.lt).set _
        · rcases h with h | h
          · exact ⟨Nat.lt_of_not_le fun hl => h (.inr ⟨hl, by omega⟩), .inl fun hc1 => h (.inl hc1)⟩
          · exact ⟨by omega, .inr h⟩
      have hC : Below Wx.heap.size Wx Wx.drew := (Below.refl _ _).drew
      clear hg ho hw hb hc hn hS hlv hcnt hq
      gi_wp2_with fail
      refine wpIn_region_till_round (k := 5) (S := (fun w' => w'.cell? ⟨W.heap.size, 0, none⟩ = some (.pointer q))) (by kernel_rfl) (by kernel_rfl) (fun ⟨_, _, h⟩ => h) ?_ (fun hHeld => ?_)
      · exact (CK.out _ hC).cell
      generalize Wx.drew = Wd at hC hHeld ⊢
      refine wpAnyL_take (i := 0) (oi := ⟨some 13, _, _, _, _, _⟩) (v := ?_) rfl (by kernel_rfl) (by kernel_rfl) (by kernel_rfl) (by kernel_rfl) (by decide) (by kernel_rfl) (by kernel_rfl) (fun _ _ _ h => h) (Or.inl ⟨by rfl, ?_⟩) (by assumption) ?_
      rotate_left
      · (intro w hSw; (try dsimp only at hSw); go_simp; try with_reducible rfl)
      try simp only [Act.put, List.setIfInBounds_toArray, List.set_cons_zero, List.set_cons_succ]
      refine wpAnyL_take (i := 1) (oi := ⟨some 14, _, _, _, _, _⟩) (v := ?_) rfl (by kernel_rfl) (by kernel_rfl) (by kernel_rfl) (by kernel_rfl) (by decide) (by kernel_rfl) (by kernel_rfl) (fun _ _ _ h => h) (Or.inl ⟨by rfl, ?_⟩) (by assumption) ?_
      rotate_left
      · (intro w hSw; (try dsimp only at hSw); go_simp; try with_reducible rfl)
      try simp only [Act.put, List.setIfInBounds_toArray, List.set_cons_zero, List.set_cons_succ]
      refine wpAnyL_take (i := 3) (oi := ⟨some 16, _, _, _, _, _⟩) (v := ?_) rfl (by kernel_rfl) (by kernel_rfl) (by kernel_rfl) (by kernel_rfl) (by decide) (by kernel_rfl) (by kernel_rfl) (fun _ _ _ h => h) (Or.inl ⟨by rfl, ?_⟩) (by assumption) ?_
      rotate_left
      · (intro w hSw; (try dsimp only at hSw); go_simp; try with_reducible rfl)
      try simp only [Act.put, List.setIfInBounds_toArray, List.set_cons_zero, List.set_cons_succ]
      refine wpAnyL_ready (rs := [2]) (by kernel_rfl) (by simp) ?_
      refine AllReadyL.cons (o := ⟨some 15, _, _, _, _, _⟩) rfl (fun K hK => ?_) AllReadyL.nil
      go_simp
      refine (hLv.out _).mono ?_
      rintro e W3 ⟨g3, cap3, rfl, hg3, hg4, hcl3, hB3⟩
      have hC0 := hC
      replace hC := below_step hC hB3
      go_wp2_with fail
      refine hK.out _ _ ?_ (fun hHeldX => ?_)
      · exact fun _ => (CK.out _ hC).cell
      clear hK K hHeld
      rename _ => hHeld
      try simp only [Act.put, List.setIfInBounds_toArray, List.set_cons_zero, List.set_cons_succ]
      refine wpAnyL_ready (rs := [4]) (by kernel_rfl) (by simp) ?_
      refine AllReadyL.cons (o := ⟨some 17, _, _, _, _, _⟩) rfl (fun K hK => ?_) AllReadyL.nil
      go_simp
      refine (HWI.out _ g3 cap3 hC (Nat.le_trans hC0.size hg3) hg4 hcl3).mono ?_
      rintro e W4 ⟨bn, L, F, rfl, hch, hnd, hB4⟩
      replace hC := below_step hC hB4
      go_wp2_with fail
      refine hK.out _ _ ?_ (fun hHeldX => ?_)
      · exact fun _ => (CK.out _ hC).cell
      clear hK K hHeld
      rename _ => hHeld
      try simp only [Act.put, List.setIfInBounds_toArray, List.set_cons_zero, List.set_cons_succ]
      refine wpAnyL_ready (rs := [5]) (by kernel_rfl) (by simp) ?_
      refine AllReadyL.cons (o := ⟨none, _, _, _, _, _⟩) rfl (fun K hK => ?_) AllReadyL.nil
      have c9 := (CK.out _ hC).cell
      have f9 := (CK.out _ hC).frozen
      go_simp
      clear c9 f9
      obtain ⟨W5, hW5⟩ : ∃ W5, W5 = W4.setCell ⟨W.heap.size, 0, none⟩ (.pointer (some ⟨bn, 0, none⟩)) := ⟨_, rfl⟩
      rw [← hW5]
      refine hK.out _ _ ?_ (fun hHeldX => ?_)
      · exact fun h => absurd h (by decide)
      clear hK K hHeld
      rename _ => hHeld
      try simp only [Act.put]
      refine wpAnyL_done (by kernel_rfl) ?_ _
      exact HEND.out _ _ _ _ _ hC hch hnd hW5
  case done =>
    rintro D C1 ys Wx hD hCD rfl ⟨own, o, hb, hc, hn⟩ hg ho hw hK
    obtain ⟨q, hq⟩ := nd_form o
    have c3 := hb.cell
    have hqv := hq
    rw [hq] at c3
    have oD : Only (fun k => k = D) Wx (Wx.putObj D (.deferred none)) := (Only.refl (fun k => k = D) Wx).putObj _ (.inl rfl)
    have hBW : Below W.heap.size W (Wx.putObj D (.deferred none)) :=
      B1.trans ((ho.step oD fun k hk e => by omega).below (by omega) fun k hk e => by omega)
    have hND : NodeIs (fun _ => False) (Wx.putObj D (.deferred none)) o := hn.turn oD (fun k e => .inl (e ▸ hCD)) fun _ _ h => h.elim
    have HE := Lib.hid (And.intro hqv (And.intro hc (And.intro hND hBW)))
    clear hc hn hND hBW oD hseq hq hqv hPl
    gi_wp2
    refine ⟨by simp, .inl ⟨_, _, rfl, run_takeDeferred hK, ?_⟩⟩
    exact ⟨_, results_tmp rfl _ _ _, o, by rw [HE.out.1]; rfl, HE.out.2.1, HE.out.2.2.1, HE.out.2.2.2⟩
  case stop =>
    rintro D c C pre Wx _ _ _ h
    exact h.elim
set_option maxRecDepth 100000 in
/-- Of nothing. -/
theorem walk_Of_nil (W : World) : Calls Try.prog 16 #[Value.nilFunc] W fun e w' => e = .returned (.pointer none) ∧ Below W.heap.size W w' := by
  have hnil : ∀ w, Sem.run Try.prog (binOp BinOp.eql 39 Value.nilFunc Value.nilFunc) w = .ok (.bool true) w := fun w => by rfl
  go_enter Try.func16, Try.ntmps16
  go_wp2
  go_ret
  exact ⟨rfl, Below.refl _ _⟩
end Go.Proofs.Ytabgedmocdjkcaa

namespace Go.Proofs.Ytabgedmocdjkcaa
open Go.ChangeShapes Go.WideShapes Go.ChangeAt Go.RowKit

/-- A slice that came in, by its elements. -/
def ListIn {α : Type} (f : α → Value) (W : World) (a : Option Addr) (L : List α) : Prop := ∀ (k : Nat) x, L[k]? = some x → ∃ b off, a = some ⟨b, off, none⟩ ∧ b < W.heap.size ∧ W.cell? ⟨b, off + k, none⟩ = some (f x)
theorem ListIn.below {α : Type} {f : α → Value} {W W' : World} {a : Option Addr} {L : List α} (h : ListIn f W a L) (hb : Below W.heap.size W W') : ListIn f W' a L := fun k x hx => by
  obtain ⟨b, off, ha, hlt, hc⟩ := h k x hx
  exact ⟨b, off, ha, Nat.lt_of_lt_of_le hlt hb.size, (hb.cell (p := ⟨b, off + k, none⟩) hlt).trans hc⟩
theorem ListIn.at {α : Type} {f : α → Value} {W : World} {a : Option Addr} {L : List α} (h : ListIn f W a L) (k : Nat) (hk : k < L.length) : ∃ b off, a = some ⟨b, off, none⟩ ∧ b < W.heap.size ∧ W.cell? ⟨b, off + k, none⟩ = some (f L[k]) := h k _ (List.getElem?_eq_getElem hk)

/-- The last step: out of the cells of a row. -/
theorem listIn_row {α : Type} {f : α → Value} {W : World} {a : Addr} {cap : Nat} {L : List α} (hcap : L.length ≤ cap) (hlt : ∀ x ∈ MemPlace.row a cap, x.block < W.heap.size) (hc : ∀ k x, L[k]? = some x → W.cell? (a.add k) = some (f x)) : ListIn f W (some a) L := fun k x hx => by
  have hk : k < L.length := (List.getElem?_eq_some_iff.1 hx).1
  obtain ⟨b, off, spot⟩ := a
  obtain ⟨y, hy⟩ : ∃ y, L[0]? = some y := ⟨L[0], List.getElem?_eq_getElem (by omega)⟩
  have hspot : spot = none := by simpa [Addr.add] using World.cell?_spot (hc 0 y hy)
  subst hspot
  refine ⟨b, off, rfl, hlt (.cell b off) (MemPlace.mem_row.2 ⟨0, by omega, by simp⟩), ?_⟩
  have := hc k x hx
  rwa [addr_add] at this

theorem open_nums {H : Type} {enc : TypeId × Value → H} {P : Program} {t e : TypeId} (ht : P.underlying t = some (.slice e)) (he : P.underlying e = some (.int .i64)) (hc : P.cellsOf e = 1) {W : World} {a : Option Addr} {len cap : Nat} {d : DataW H} {ps : List MemPlace}
    (h : DataW.Trod enc P W 0 (fun _ => true) true t (.slice a len cap) d ps) (hlt : ∀ x ∈ ps, x.block < W.heap.size) : ∃ L : List Int, L.length = len ∧ ListIn numV W a L := by
  obtain ⟨fuel, hf⟩ := h
  rcases open_ints ht he hc hf with ⟨hcs, hx⟩ | ⟨a', len', cap', zs, hcs, _, hl, hm, hz, hx, hcell, _⟩
  · simp [Value.cells] at hcs
    obtain ⟨rfl, rfl, rfl⟩ := hcs
    exact ⟨[], rfl, fun i x hx => by simp at hx⟩
  · simp [Value.cells] at hcs
    obtain ⟨rfl, rfl, rfl⟩ := hcs
    simp only [Prod.mk.injEq] at hx
    obtain ⟨rfl, rfl⟩ := hx
    simp only [if_true] at hz
    rw [hz] at hlt
    refine ⟨zs.take len, by simp; omega, listIn_row (by simp; omega) hlt fun k x hx => ?_⟩
    have hk : k < len := by
      have := (List.getElem?_eq_some_iff.1 hx).1; simp at this; omega
    rw [List.getElem?_take_of_lt hk] at hx
    have := hcell k (by omega)
    rw [List.getD, hx] at this
    exact this
theorem open_flags {H : Type} {enc : TypeId × Value → H} {P : Program} {t e : TypeId} (ht : P.underlying t = some (.slice e)) (he : P.underlying e = some .bool) (hc : P.cellsOf e = 1) {W : World} {a : Option Addr} {len cap : Nat} {d : DataW H} {ps : List MemPlace}
    (h : DataW.Trod enc P W 0 (fun _ => true) true t (.slice a len cap) d ps) (hlt : ∀ x ∈ ps, x.block < W.heap.size) : ∃ L : List Bool, L.length = len ∧ ListIn Value.bool W a L := by
  obtain ⟨fuel, hf⟩ := h
  rcases Go.Deep.open_bools ht he hc hf with ⟨hcs, hx⟩ | ⟨a', len', cap', B, hcs, _, hl, hm, hx, hcell⟩
  · simp [Value.cells] at hcs
    obtain ⟨rfl, rfl, rfl⟩ := hcs
    exact ⟨[], rfl, fun i x hx => by simp at hx⟩
  · simp [Value.cells] at hcs
    obtain ⟨rfl, rfl, rfl⟩ := hcs
    simp only [Prod.mk.injEq] at hx
    obtain ⟨rfl, rfl⟩ := hx
    refine ⟨(List.range len).map B, by simp, listIn_row (by simp; omega) hlt fun k x hx => ?_⟩
    have hk : k < len := by
      have := (List.getElem?_eq_some_iff.1 hx).1; simpa using this
    have := hcell k (by omega)
    simp [hk] at hx
    rw [this, hx]
theorem open_keys {H : Type} {enc : TypeId × Value → H} {P : Program} {t e : TypeId} (ht : P.underlying t = some (.slice e)) (he : P.underlying e = some .string) (hc : P.cellsOf e = 1) {W : World} {a : Option Addr} {len cap : Nat} {d : DataW H} {ps : List MemPlace}
    (h : DataW.Trod enc P W 0 (fun _ => true) true t (.slice a len cap) d ps) (hlt : ∀ x ∈ ps, x.block < W.heap.size) : ∃ L : List ByteArray, L.length = len ∧ ListIn Value.string W a L := by
  obtain ⟨fuel, hf⟩ := h
  rcases open_strings ht he hc hf with ⟨hcs, hx⟩ | ⟨a', len', cap', ss, hcs, _, hl, hm, hz, hx, hcell, _⟩
  · simp [Value.cells] at hcs
    obtain ⟨rfl, rfl, rfl⟩ := hcs
    exact ⟨[], rfl, fun i x hx => by simp at hx⟩
  · simp [Value.cells] at hcs
    obtain ⟨rfl, rfl, rfl⟩ := hcs
    simp only [Prod.mk.injEq] at hx
    obtain ⟨rfl, rfl⟩ := hx
    simp only [if_true] at hz
    rw [hz] at hlt
    refine ⟨ss.take len, by simp; omega, listIn_row (by simp; omega) hlt fun k x hx => ?_⟩
    have hk : k < len := by
      have := (List.getElem?_eq_some_iff.1 hx).1; simp at this; omega
    rw [List.getElem?_take_of_lt hk] at hx
    have := hcell k (by omega)
    rw [List.getD, hx] at this
    exact this

end Go.Proofs.Ytabgedmocdjkcaa
