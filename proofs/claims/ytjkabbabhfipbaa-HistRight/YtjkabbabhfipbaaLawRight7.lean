/- Layer 7: HistRight's walk. -/
import Derived.Test.YtjkabbabhfipbaaAwake7
import Derived.Test.YtjkabbabhfipbaaRefRight7
import Derived.Test.YtjkabbabhfipbaaMinimal7
import Derived.Test.YtjkabbabhfipbaaRefMin7
import Derived.Test.YtjkabbabhfipbaaIntsRef
import Derived.Test.YtjkabbabhfipbaaRefSame7
import Derived.Deep.RegionHeld3
import Derived.Deep.Cut
import Derived.Deep.CutRange
import Derived.Laws.AppendOwnNone
namespace Go.Proofs.Ytjkabbabhfipbaa
open Go.RowKit

theorem two_S {w wr : World} {b o p : Nat} {x y : CallZ} (h : w.rangeAt b o (callV x) ∧ w.rangeAt b p (callV y) ∧ b < w.heap.size) (hB : Below w.heap.size w wr) : wr.rangeAt b o (callV x) ∧ wr.rangeAt b p (callV y) :=
  ⟨fun j v hv => (hB.cell (p := ⟨b, o + j, none⟩) h.2.2).trans (h.1 j v hv), fun j v hv => (hB.cell (p := ⟨b, p + j, none⟩) h.2.2).trans (h.2.1 j v hv)⟩
theorem blk_setCells {t : TypeId} {B : Nat} : ∀ (vs : List Value) (o : Nat) (w : World) (l : List Value), Blk t w B l → Blk t (w.setCells B o vs) B (setsL l o vs)
  | [], _, _, _, h => h
  | u :: r, o, w, l, h => by
    rw [World.setCells]
    exact blk_setCells r (o + 1) _ _ (h.set o u)
theorem blk_there {w : World} {B : Nat} {c : CallZ} (h : Blk 42 w B (callV c)) (o m : Nat) (hom : o + m ≤ 15) : w.there B o m := fun j hj => ⟨by
  rw [h.cell, List.getElem?_eq_getElem (by rw [callV_len]; omega)]
  rfl, h.frozen _⟩
/-- Two new boxes for calls. -/
structure Made1 (w w1 : World) : Prop where
  low : Below w.heap.size w w1
  ba : Blk 42 w1 w.heap.size (callV default)
  sz : w1.heap.size = w.heap.size + 1
structure Made2 (w w2 : World) (x y : CallZ) : Prop where
  low : Below w.heap.size w w2
  ba : Blk 42 w2 w.heap.size (callV x)
  bb : Blk 42 w2 (w.heap.size + 1) (callV y)
theorem Made1.mk1 {w w1 : World} (h : (w.alloc (.cells (callV default).toArray 42)).drew = w1) : Made1 w w1 := by
  subst h
  exact ⟨below_draws ((Below.refl _ _).alloc (Nat.le_refl _) _) 1, Blk.new (l := callV default), by simp⟩
theorem Made1.mk2 {w w1 w2 : World} (m : Made1 w w1) (h : w1.alloc (.cells (callV default).toArray 42) = w2) : Made2 w w2 default default := by
  subst h
  have e := Blk.new (W := w1) (t := 42) (l := callV default)
  rw [m.sz] at e
  exact ⟨m.low.alloc m.low.size _, m.ba.alloc _, e⟩
theorem Made2.setA {w w2 w3 : World} {x y z : CallZ} (m : Made2 w w2 x y) (h : w2.setCells w.heap.size 0 (callV z) = w3) : Made2 w w3 z y := by
  have o : Only (· = w.heap.size) w2 w3 := h ▸ only_setCells (S := (· = w.heap.size)) rfl (callV z) 0 w2 w2 (Only.refl _ _)
  refine ⟨o.below_step m.low.size m.low (fun i hi => by omega), ?_, m.bb.only o (by omega)⟩
  have := blk_setCells (callV z) 0 w2 _ m.ba
  rw [h] at this
  exact this
theorem Made2.setB {w w2 w3 : World} {x y z : CallZ} (m : Made2 w w2 x y) (h : w2.setCells (w.heap.size + 1) 0 (callV z) = w3) : Made2 w w3 x z := by
  have o : Only (· = w.heap.size + 1) w2 w3 := h ▸ only_setCells (S := (· = w.heap.size + 1)) rfl (callV z) 0 w2 w2 (Only.refl _ _)
  refine ⟨o.below_step m.low.size m.low (fun i hi => by omega), m.ba.only o (by omega), ?_⟩
  have := blk_setCells (callV z) 0 w2 _ m.bb
  rw [h] at this
  exact this
theorem seven_S {w : World} {p9 p10 : Nat} {x y : CallZ} (hx : Blk 42 w p9 (callV x)) (hy : Blk 42 w p10 (callV y)) : w.rangeAt p9 0 (callV x) ∧ w.rangeAt p10 0 (callV y) ∧ w.cell? ⟨p9, 14, none⟩ = some (numV x.to) ∧ w.cell? ⟨p10, 13, none⟩ = some (numV y.fr) :=
  ⟨blk_range hx, blk_range hy, hx.at (o := 14) rfl, hy.at (o := 13) rfl⟩

/-- What lies in a row of yes and no, up to some place. -/
theorem listIn_own {w : World} {base : Nat} {g n cap : Nat} {D : List Bool} (h : w.ownsRow base 4 1 (.slice (some ⟨g, 0, none⟩) n cap) n (D.map Value.bool)) (m : Nat) : ListIn Value.bool w (some ⟨g, 0, none⟩) (D.take m) := by
  obtain ⟨l, cap', _, _, hB, ht, hle⟩ := own_heap h rfl
  intro k x hx
  refine ⟨g, 0, rfl, hB.lt, ?_⟩
  rw [Nat.zero_add]
  refine hB.at ?_
  have hx2 : D[k]? = some x := by
    rw [List.getElem?_take] at hx
    split at hx
    · exact hx
    · cases hx
  have h1 : (D.map Value.bool)[k]? = some (.bool x) := by rw [List.getElem?_map, hx2]; rfl
  rw [← ht, List.getElem?_take] at h1
  split at h1
  · exact h1
  · cases h1
/-- The copy of what is done. -/
structure CopyIs (w wB wx : World) (g cap : Nat) (D : List Bool) : Prop where
  row : wx.ownsRow wB.heap.size 4 1 (.slice (some ⟨g, 0, none⟩) D.length cap) D.length (D.map Value.bool)
  le : D.length ≤ cap
  low : Below w.heap.size w wx
theorem own_cap {w : World} {base n size g cap : Nat} {e : TypeId} {xs : List Value} (h : w.ownsRow base e size (.slice (some ⟨g, 0, none⟩) n cap) n xs) : n ≤ cap := by
  rcases h.2 with ⟨e, _⟩ | ⟨g', cap', cur, e, _, _, h1, _⟩
  · cases e
  · cases e; exact h1
theorem hist_Minimal_n {w : World} {v : Value} {L : List CallZ} {ad : Option Addr} {D : List Bool} {capd n : Nat} (hL : CallsIn w v L) (hLl : L.length ≤ 100000) (hD : ListIn Value.bool w ad D) (hn : D.length = n) :
    Calls Try.prog 18 #[v, .slice ad n capd] w fun e w' => ∃ r, e = .returned r ∧ NumsIn w' r (refMin L D L.length) ∧ Below w.heap.size w w' := by
  subst hn
  rw [← min_same]
  exact hist_Minimal hL hLl hD
theorem ref_Minimal_n {w : World} {v : Value} {L : List CallZ} {ad : Option Addr} {D : List Bool} {capd n : Nat} (hL : CallsIn w v L) (hLl : L.length ≤ 100000) (hD : ListIn Value.bool w ad D) (hDl : D.length ≤ L.length) (hn : D.length = n) :
    Calls Try.prog 19 #[v, .slice ad n capd] w fun e w' => ∃ r, e = .returned r ∧ NumsIn w' r (refMin L D L.length) ∧ Below w.heap.size w w' := by
  subst hn
  exact ref_Minimal hL hLl hD hDl
theorem ints_refl {w : World} {u v : Value} {A : List Int} (hu : NumsIn w u A) (hv : NumsIn w v A) (hA : A.length ≤ 1000000) : Calls Try.prog 17 #[u, v] w fun e w' => e = .returned (.bool true) ∧ Below w.heap.size w w' := by
  refine (ref_Ints u v A A w hu hv hA hA).mono ?_
  rintro e w' ⟨he, hb⟩
  exact ⟨by rw [he]; simp, hb⟩
set_option maxHeartbeats 8000000 in
set_option maxRecDepth 100000 in
theorem law_right_some {w : World} {a : Option Addr} {a0 : Addr} {cap capd : Nat} {D : List Bool} {L : List CallZ} (hL : RecsIn 15 callV w a L) (hW : WfCalls L) (hD : ListIn Value.bool w (some a0) D) (i k : Int) (hi : 0 ≤ i ∧ i < 256) (hk : 0 ≤ k ∧ k < 256) :
    Calls Try.prog 4 #[.slice a L.length cap, .slice (some a0) D.length capd, .int .u8 i, .int .u8 k] w fun e w' => e = .returned (.bool true) ∧ Below w.heap.size w w' := by
  have H := Lib.hid hL
  have HW := Lib.hid hW
  have HD := Lib.hid hD
  clear hL hW hD
  go_enter Try.func4, Try.ntmps4
  go_wp2_with fail
  refine (law_awake w).mono ?_
  rintro e wA ⟨rfl, hbA⟩
  by_cases h60 : 60 < L.length
  · have h60' : decide (60 < L.length) = true := by simpa using h60
    go_wp2
    go_ret
    exact ⟨rfl, hbA⟩
  by_cases h100 : 100 < D.length
  · go_wp2
    go_ret
    exact ⟨rfl, hbA⟩
  by_cases h0 : 0 < L.length
  · obtain ⟨p, hp, hpl⟩ : ∃ p : Nat, i.tmod (L.length : Int) = (p : Int) ∧ p < L.length := ⟨(i.tmod (L.length : Int)).toNat, by
      have := Int.tmod_nonneg (L.length : Int) hi.1
      omega, by
      have := Int.tmod_nonneg (L.length : Int) hi.1
      have := Int.tmod_lt_of_pos i (show (0 : Int) < (L.length : Int) by omega)
      omega⟩
    obtain ⟨q, hq, hql⟩ : ∃ q : Nat, k.tmod (L.length : Int) = (q : Int) ∧ q < L.length := ⟨(k.tmod (L.length : Int)).toNat, by
      have := Int.tmod_nonneg (L.length : Int) hk.1
      omega, by
      have := Int.tmod_nonneg (L.length : Int) hk.1
      have := Int.tmod_lt_of_pos k (show (0 : Int) < (L.length : Int) by omega)
      omega⟩
    obtain ⟨b, off, rfl, hb, hrx⟩ := (H.out.below hbA).range hpl
    obtain ⟨b', off', e', _, hry⟩ := (H.out.below hbA).range hql
    cases e'
    generalize L[p] = x at hrx
    generalize L[q] = y at hry
    have XY : Hid (wA.rangeAt b (off + p * 15) (callV x) ∧ wA.rangeAt b (off + q * 15) (callV y) ∧ b < wA.heap.size) := Lib.hid ⟨hrx, hry, hb⟩
    have M0 : Hid (Below wA.heap.size wA wA.drew) := Lib.hid (below_draws (Below.refl _ _) 1)
    clear hrx hry
    have hp2 : (p : Int) < (L.length : Int) := by omega
    have hp3 : (0 : Int) ≤ (p : Int) := by omega
    have hq2 : (q : Int) < (L.length : Int) := by omega
    have hq3 : (0 : Int) ≤ (q : Int) := by omega
    have hwi : IntKind.i64.wrap i = i := by rw [IntKind.wrap_i64]; omega
    have hwk : IntKind.i64.wrap k = k := by rw [IntKind.wrap_i64]; omega
    have hne : ¬ L = [] := fun e => by rw [e] at h0; simp at h0
    go_wp2_with fail
    go_cut [9, 10] from 25 to 40 (fun s9 s10 wx => ∃ p9 p10 : Nat, s9 = .pointer (some ⟨p9, 0, none⟩) ∧ s10 = .pointer (some ⟨p10, 0, none⟩) ∧ Hid (Blk 42 wx p9 (callV x)) ∧ Hid (Blk 42 wx p10 (callV y)) ∧ Hid (Below w.heap.size w wx))
    case first =>
      refine wp_region_noPanic ?_
      refine wp_region_held_drew (S := (fun w' => w'.rangeAt b (off + p * 15) (callV x) ∧ w'.rangeAt b (off + q * 15) (callV y))) (by kernel_rfl) ?_ (fun hHeld => ?_)
      · first | exact two_S XY.out M4.out.low | exact two_S XY.out M3.out.low | exact two_S XY.out M2.out.low | exact two_S XY.out M1.out.low | exact two_S XY.out M0.out
      refine wpAnyH_take (i := 0) (oi := ⟨some 25, _, _, _, _, _⟩) (v := ?_) rfl (by kernel_rfl) (by kernel_rfl) (by kernel_rfl) (fun _ _ _ h => h) (Or.inl ⟨by rfl, ?_⟩) (by assumption) ?_
      rotate_left
      · (intro w hSw; (try dsimp only at hSw); go_simp; try with_reducible rfl)
      try simp only [Act.put, List.setIfInBounds_toArray, List.set_cons_zero, List.set_cons_succ]
      refine wpAnyH_take (i := 1) (oi := ⟨some 26, _, _, _, _, _⟩) (v := ?_) rfl (by kernel_rfl) (by kernel_rfl) (by kernel_rfl) (fun _ _ _ h => h) (Or.inl ⟨by rfl, ?_⟩) (by assumption) ?_
      rotate_left
      · (intro w hSw; (try dsimp only at hSw); go_simp; try with_reducible rfl)
      try simp only [Act.put, List.setIfInBounds_toArray, List.set_cons_zero, List.set_cons_succ]
      refine wpAnyH_take (i := 2) (oi := ⟨some 27, _, _, _, _, _⟩) (v := ?_) rfl (by kernel_rfl) (by kernel_rfl) (by kernel_rfl) (fun _ _ _ h => h) (Or.inl ⟨by rfl, ?_⟩) (by assumption) ?_
      rotate_left
      · (intro w hSw; (try dsimp only at hSw); go_simp; try with_reducible rfl)
      try simp only [Act.put, List.setIfInBounds_toArray, List.set_cons_zero, List.set_cons_succ]
      refine wpAnyH_take (i := 3) (oi := ⟨some 28, _, _, _, _, _⟩) (v := ?_) rfl (by kernel_rfl) (by kernel_rfl) (by kernel_rfl) (fun _ _ _ h => h) (Or.inl ⟨by rfl, ?_⟩) (by assumption) ?_
      rotate_left
      · (intro w hSw; (try dsimp only at hSw); go_simp; try with_reducible rfl)
      try simp only [Act.put, List.setIfInBounds_toArray, List.set_cons_zero, List.set_cons_succ]
      refine wpAnyH_take (i := 4) (oi := ⟨some 29, _, _, _, _, _⟩) (v := ?_) rfl (by kernel_rfl) (by kernel_rfl) (by kernel_rfl) (fun _ _ _ h => h) (Or.inl ⟨by rfl, ?_⟩) (by assumption) ?_
      rotate_left
      · (intro w hSw; (try dsimp only at hSw); go_simp; try with_reducible rfl)
      try simp only [Act.put, List.setIfInBounds_toArray, List.set_cons_zero, List.set_cons_succ]
      refine wpAnyH_take (i := 5) (oi := ⟨some 30, _, _, _, _, _⟩) (v := ?_) rfl (by kernel_rfl) (by kernel_rfl) (by kernel_rfl) (fun _ _ _ h => h) (Or.inl ⟨by rfl, ?_⟩) (by assumption) ?_
      rotate_left
      · (intro w hSw; (try dsimp only at hSw); go_simp; try with_reducible rfl)
      try simp only [Act.put, List.setIfInBounds_toArray, List.set_cons_zero, List.set_cons_succ]
      refine wpAnyH_take (i := 6) (oi := ⟨some 31, _, _, _, _, _⟩) (v := ?_) rfl (by kernel_rfl) (by kernel_rfl) (by kernel_rfl) (fun _ _ _ h => h) (Or.inl ⟨by rfl, ?_⟩) (by assumption) ?_
      rotate_left
      · (intro w hSw; (try dsimp only at hSw); go_simp; try with_reducible rfl)
      try simp only [Act.put, List.setIfInBounds_toArray, List.set_cons_zero, List.set_cons_succ]
      refine wpAnyH_take (i := 7) (oi := ⟨some 32, _, _, _, _, _⟩) (v := callA x) rfl (by kernel_rfl) (by kernel_rfl) (by kernel_rfl) (fun _ _ _ h => h) (yieldsIf_load_mid (by rfl) 42 _ rfl b (off + p * 15) rfl (callV x) _ (fun w h => h.1) Try.underlying42 rfl (by kernel_rfl)) (by assumption) ?_
      try simp only [Act.put, List.setIfInBounds_toArray, List.set_cons_zero, List.set_cons_succ]
      refine wpAnyH_take (i := 8) (oi := ⟨some 33, _, _, _, _, _⟩) (v := ?_) rfl (by kernel_rfl) (by kernel_rfl) (by kernel_rfl) (fun _ _ _ h => h) (Or.inl ⟨by rfl, ?_⟩) (by assumption) ?_
      rotate_left
      · (intro w hSw; (try dsimp only at hSw); go_simp; try with_reducible rfl)
      try simp only [Act.put, List.setIfInBounds_toArray, List.set_cons_zero, List.set_cons_succ]
      refine wpAnyH_take (i := 9) (oi := ⟨some 34, _, _, _, _, _⟩) (v := ?_) rfl (by kernel_rfl) (by kernel_rfl) (by kernel_rfl) (fun _ _ _ h => h) (Or.inl ⟨by rfl, ?_⟩) (by assumption) ?_
      rotate_left
      · (intro w hSw; (try dsimp only at hSw); go_simp; try with_reducible rfl)
      try simp only [Act.put, List.setIfInBounds_toArray, List.set_cons_zero, List.set_cons_succ]
      refine wpAnyH_take (i := 10) (oi := ⟨some 35, _, _, _, _, _⟩) (v := ?_) rfl (by kernel_rfl) (by kernel_rfl) (by kernel_rfl) (fun _ _ _ h => h) (Or.inl ⟨by rfl, ?_⟩) (by assumption) ?_
      rotate_left
      · (intro w hSw; (try dsimp only at hSw); go_simp; try with_reducible rfl)
      try simp only [Act.put, List.setIfInBounds_toArray, List.set_cons_zero, List.set_cons_succ]
      refine wpAnyH_take (i := 11) (oi := ⟨some 36, _, _, _, _, _⟩) (v := ?_) rfl (by kernel_rfl) (by kernel_rfl) (by kernel_rfl) (fun _ _ _ h => h) (Or.inl ⟨by rfl, ?_⟩) (by assumption) ?_
      rotate_left
      · (intro w hSw; (try dsimp only at hSw); go_simp; try with_reducible rfl)
      try simp only [Act.put, List.setIfInBounds_toArray, List.set_cons_zero, List.set_cons_succ]
      refine wpAnyH_take (i := 12) (oi := ⟨some 37, _, _, _, _, _⟩) (v := ?_) rfl (by kernel_rfl) (by kernel_rfl) (by kernel_rfl) (fun _ _ _ h => h) (Or.inl ⟨by rfl, ?_⟩) (by assumption) ?_
      rotate_left
      · (intro w hSw; (try dsimp only at hSw); go_simp; try with_reducible rfl)
      try simp only [Act.put, List.setIfInBounds_toArray, List.set_cons_zero, List.set_cons_succ]
      refine wpAnyH_take (i := 13) (oi := ⟨some 38, _, _, _, _, _⟩) (v := ?_) rfl (by kernel_rfl) (by kernel_rfl) (by kernel_rfl) (fun _ _ _ h => h) (Or.inl ⟨by rfl, ?_⟩) (by assumption) ?_
      rotate_left
      · (intro w hSw; (try dsimp only at hSw); go_simp; try with_reducible rfl)
      try simp only [Act.put, List.setIfInBounds_toArray, List.set_cons_zero, List.set_cons_succ]
      refine wpAnyH_take (i := 14) (oi := ⟨some 39, _, _, _, _, _⟩) (v := ?_) rfl (by kernel_rfl) (by kernel_rfl) (by kernel_rfl) (fun _ _ _ h => h) (Or.inl ⟨by rfl, ?_⟩) (by assumption) ?_
      rotate_left
      · (intro w hSw; (try dsimp only at hSw); go_simp; try with_reducible rfl)
      try simp only [Act.put, List.setIfInBounds_toArray, List.set_cons_zero, List.set_cons_succ]
      refine wpAnyH_take (i := 15) (oi := ⟨some 40, _, _, _, _, _⟩) (v := callA y) rfl (by kernel_rfl) (by kernel_rfl) (by kernel_rfl) (fun _ _ _ h => h) (yieldsIf_load_mid (by rfl) 42 _ rfl b (off + q * 15) rfl (callV y) _ (fun w h => h.2) Try.underlying42 rfl (by kernel_rfl)) (by assumption) ?_
      try simp only [Act.put, List.setIfInBounds_toArray, List.set_cons_zero, List.set_cons_succ]
      refine wpAnyH_ready (rs := [16, 17]) (by kernel_rfl) (by simp) ?_
      refine AllReadyH.cons (o := ⟨some 9, _, _, _, _, _⟩) rfl (fun K hK => ?_) (AllReadyH.cons (o := ⟨some 10, _, _, _, _, _⟩) rfl (fun K hK => ?_) AllReadyH.nil)
      · go_simp
        show K _ ((wA.alloc (.cells (callV default).toArray 42)).drew)
        obtain ⟨W1, hW1⟩ : ∃ W1, (wA.alloc (.cells (callV default).toArray 42)).drew = W1 := ⟨_, rfl⟩
        rw [hW1]
        have M1 := Lib.hid (Made1.mk1 hW1)
        have z1 := M1.out.sz
        clear hW1
        refine hK.out _ _ ?_ (fun hHeldX => ?_)
        · first | exact two_S XY.out M4.out.low | exact two_S XY.out M3.out.low | exact two_S XY.out M2.out.low | exact two_S XY.out M1.out.low | exact two_S XY.out M0.out
        clear hK K hHeld
        rename _ => hHeld
        try simp only [Act.put, List.setIfInBounds_toArray, List.set_cons_zero, List.set_cons_succ]
        refine wpAnyH_ready (rs := [17]) (by kernel_rfl) (by simp) ?_
        refine AllReadyH.cons (o := ⟨some 10, _, _, _, _, _⟩) rfl (fun K hK => ?_) AllReadyH.nil
        go_simp
        show K _ (W1.alloc (.cells (callV default).toArray 42))
        obtain ⟨W2, hW2⟩ : ∃ W2, W1.alloc (.cells (callV default).toArray 42) = W2 := ⟨_, rfl⟩
        rw [hW2]
        have M2 := Lib.hid (M1.out.mk2 hW2)
        clear hW2
        refine hK.out _ _ ?_ (fun hHeldX => ?_)
        · first | exact two_S XY.out M4.out.low | exact two_S XY.out M3.out.low | exact two_S XY.out M2.out.low | exact two_S XY.out M1.out.low | exact two_S XY.out M0.out
        clear hK K hHeld
        rename _ => hHeld
        try simp only [Act.put, List.setIfInBounds_toArray, List.set_cons_zero, List.set_cons_succ]
        refine wpAnyH_ready (rs := [18]) (by kernel_rfl) (by simp) ?_
        refine AllReadyH.cons (o := ⟨none, _, _, _, _, _⟩) rfl (fun K hK => ?_) AllReadyH.nil
        refine step_store_mid rfl 42 (.tmp 9) (.tmp 32) rfl (wA.heap.size) 0 (callV x).toArray rfl rfl (blk_there M2.out.ba 0 15 (by decide)) (by kernel_rfl) (callA_one x) ?_
        obtain ⟨W3, hW3⟩ : ∃ W3, W2.setCells (wA.heap.size) 0 (callV x) = W3 := ⟨_, rfl⟩
        rw [show (callV x).toArray.toList = callV x from rfl, hW3]
        have M3 := Lib.hid (M2.out.setA hW3)
        clear hW3
        refine hK.out _ _ ?_ (fun hHeldX => ?_)
        · first | exact two_S XY.out M4.out.low | exact two_S XY.out M3.out.low | exact two_S XY.out M2.out.low | exact two_S XY.out M1.out.low | exact two_S XY.out M0.out
        clear hK K hHeld
        rename _ => hHeld
        simp only [Act.put]
        refine wpAnyH_ready (rs := [19]) (by kernel_rfl) (by simp) ?_
        refine AllReadyH.cons (o := ⟨none, _, _, _, _, _⟩) rfl (fun K hK => ?_) AllReadyH.nil
        refine step_store_mid rfl 42 (.tmp 10) (.tmp 40) rfl (wA.heap.size + 1) 0 (callV y).toArray rfl rfl (blk_there M3.out.bb 0 15 (by decide)) (by kernel_rfl) (callA_one y) ?_
        obtain ⟨W4, hW4⟩ : ∃ W4, W3.setCells (wA.heap.size + 1) 0 (callV y) = W4 := ⟨_, rfl⟩
        rw [show (callV y).toArray.toList = callV y from rfl, hW4]
        have M4 := Lib.hid (M3.out.setB hW4)
        clear hW4
        refine hK.out _ _ ?_ (fun hHeldX => ?_)
        · first | exact two_S XY.out M4.out.low | exact two_S XY.out M3.out.low | exact two_S XY.out M2.out.low | exact two_S XY.out M1.out.low | exact two_S XY.out M0.out
        clear hK K hHeld
        rename _ => hHeld
        simp only [Act.put]
        refine wpAnyH_done (by kernel_rfl) ?_ _
        refine NoPanic.normal ?_
        go_wp2_with fail
        go_meet
        case rel => exact ⟨wA.heap.size, wA.heap.size + 1, rfl, rfl, Lib.hid M4.out.ba, Lib.hid M4.out.bb, Lib.hid (below_step hbA M4.out.low)⟩
      · go_simp
        show K _ ((wA.alloc (.cells (callV default).toArray 42)).drew)
        obtain ⟨W1, hW1⟩ : ∃ W1, (wA.alloc (.cells (callV default).toArray 42)).drew = W1 := ⟨_, rfl⟩
        rw [hW1]
        have M1 := Lib.hid (Made1.mk1 hW1)
        have z1 := M1.out.sz
        clear hW1
        refine hK.out _ _ ?_ (fun hHeldX => ?_)
        · first | exact two_S XY.out M4.out.low | exact two_S XY.out M3.out.low | exact two_S XY.out M2.out.low | exact two_S XY.out M1.out.low | exact two_S XY.out M0.out
        clear hK K hHeld
        rename _ => hHeld
        try simp only [Act.put, List.setIfInBounds_toArray, List.set_cons_zero, List.set_cons_succ]
        refine wpAnyH_ready (rs := [16]) (by kernel_rfl) (by simp) ?_
        refine AllReadyH.cons (o := ⟨some 9, _, _, _, _, _⟩) rfl (fun K hK => ?_) AllReadyH.nil
        go_simp
        show K _ (W1.alloc (.cells (callV default).toArray 42))
        obtain ⟨W2, hW2⟩ : ∃ W2, W1.alloc (.cells (callV default).toArray 42) = W2 := ⟨_, rfl⟩
        rw [hW2]
        have M2 := Lib.hid (M1.out.mk2 hW2)
        clear hW2
        refine hK.out _ _ ?_ (fun hHeldX => ?_)
        · first | exact two_S XY.out M4.out.low | exact two_S XY.out M3.out.low | exact two_S XY.out M2.out.low | exact two_S XY.out M1.out.low | exact two_S XY.out M0.out
        clear hK K hHeld
        rename _ => hHeld
        try simp only [Act.put, List.setIfInBounds_toArray, List.set_cons_zero, List.set_cons_succ]
        refine wpAnyH_ready (rs := [18]) (by kernel_rfl) (by simp) ?_
        refine AllReadyH.cons (o := ⟨none, _, _, _, _, _⟩) rfl (fun K hK => ?_) AllReadyH.nil
        refine step_store_mid rfl 42 (.tmp 9) (.tmp 32) rfl (wA.heap.size + 1) 0 (callV x).toArray rfl rfl (blk_there M2.out.bb 0 15 (by decide)) (by kernel_rfl) (callA_one x) ?_
        obtain ⟨W3, hW3⟩ : ∃ W3, W2.setCells (wA.heap.size + 1) 0 (callV x) = W3 := ⟨_, rfl⟩
        rw [show (callV x).toArray.toList = callV x from rfl, hW3]
        have M3 := Lib.hid (M2.out.setB hW3)
        clear hW3
        refine hK.out _ _ ?_ (fun hHeldX => ?_)
        · first | exact two_S XY.out M4.out.low | exact two_S XY.out M3.out.low | exact two_S XY.out M2.out.low | exact two_S XY.out M1.out.low | exact two_S XY.out M0.out
        clear hK K hHeld
        rename _ => hHeld
        simp only [Act.put]
        refine wpAnyH_ready (rs := [19]) (by kernel_rfl) (by simp) ?_
        refine AllReadyH.cons (o := ⟨none, _, _, _, _, _⟩) rfl (fun K hK => ?_) AllReadyH.nil
        refine step_store_mid rfl 42 (.tmp 10) (.tmp 40) rfl (wA.heap.size) 0 (callV y).toArray rfl rfl (blk_there M3.out.ba 0 15 (by decide)) (by kernel_rfl) (callA_one y) ?_
        obtain ⟨W4, hW4⟩ : ∃ W4, W3.setCells (wA.heap.size) 0 (callV y) = W4 := ⟨_, rfl⟩
        rw [show (callV y).toArray.toList = callV y from rfl, hW4]
        have M4 := Lib.hid (M3.out.setA hW4)
        clear hW4
        refine hK.out _ _ ?_ (fun hHeldX => ?_)
        · first | exact two_S XY.out M4.out.low | exact two_S XY.out M3.out.low | exact two_S XY.out M2.out.low | exact two_S XY.out M1.out.low | exact two_S XY.out M0.out
        clear hK K hHeld
        rename _ => hHeld
        simp only [Act.put]
        refine wpAnyH_done (by kernel_rfl) ?_ _
        refine NoPanic.normal ?_
        go_wp2_with fail
        go_meet
        case rel => exact ⟨wA.heap.size + 1, wA.heap.size, rfl, rfl, Lib.hid M4.out.bb, Lib.hid M4.out.ba, Lib.hid (below_step hbA M4.out.low)⟩
    case rest =>
      obtain ⟨p9, p10, rfl, rfl, BX, BY, LO⟩ := hcut
      have BX : Hid (Blk 42 wc.drew p9 (callV x)) := Lib.hid BX.out
      have BY : Hid (Blk 42 wc.drew p10 (callV y)) := Lib.hid BY.out
      go_wp2_with fail
      refine wp_region_noPanic ?_
      refine wp_region_held_drew (S := (fun w' => w'.rangeAt p9 0 (callV x) ∧ w'.rangeAt p10 0 (callV y) ∧ w'.cell? ⟨p9, 14, none⟩ = some (numV x.to) ∧ w'.cell? ⟨p10, 13, none⟩ = some (numV y.fr))) (by kernel_rfl) ?_ (fun hHeld => ?_)
      · first | exact seven_S (BX.out.below G6.out BX.out.lt) (BY.out.below G6.out BY.out.lt) | exact seven_S BX.out BY.out
      refine wpAnyH_take (i := 0) (oi := ⟨some 41, _, _, _, _, _⟩) (v := callA x) rfl (by kernel_rfl) (by kernel_rfl) (by kernel_rfl) (fun _ _ _ h => h) (yieldsIf_load_mid (by rfl) 42 _ rfl p9 0 rfl (callV x) _ (fun w h => h.1) Try.underlying42 rfl (by kernel_rfl)) (by assumption) ?_
      try simp only [Act.put, List.setIfInBounds_toArray, List.set_cons_zero, List.set_cons_succ]
      refine wpAnyH_take (i := 1) (oi := ⟨some 42, _, _, _, _, _⟩) (v := callA y) rfl (by kernel_rfl) (by kernel_rfl) (by kernel_rfl) (fun _ _ _ h => h) (yieldsIf_load_mid (by rfl) 42 _ rfl p10 0 rfl (callV y) _ (fun w h => h.2.1) Try.underlying42 rfl (by kernel_rfl)) (by assumption) ?_
      try simp only [Act.put, List.setIfInBounds_toArray, List.set_cons_zero, List.set_cons_succ]
      refine wpAnyH_take (i := 3) (oi := ⟨some 44, _, _, _, _, _⟩) (v := ?_) rfl (by kernel_rfl) (by kernel_rfl) (by kernel_rfl) (fun _ _ _ h => h) (Or.inl ⟨by rfl, ?_⟩) (by assumption) ?_
      rotate_left
      · (intro w hSw; (try dsimp only at hSw); go_simp; try with_reducible rfl)
      try simp only [Act.put, List.setIfInBounds_toArray, List.set_cons_zero, List.set_cons_succ]
      refine wpAnyH_take (i := 4) (oi := ⟨some 45, _, _, _, _, _⟩) (v := ?_) rfl (by kernel_rfl) (by kernel_rfl) (by kernel_rfl) (fun _ _ _ h => h) (Or.inl ⟨by rfl, ?_⟩) (by assumption) ?_
      rotate_left
      · (intro w hSw; (try dsimp only at hSw); go_simp; try with_reducible rfl)
      try simp only [Act.put, List.setIfInBounds_toArray, List.set_cons_zero, List.set_cons_succ]
      refine wpAnyH_take (i := 5) (oi := ⟨some 46, _, _, _, _, _⟩) (v := ?_) rfl (by kernel_rfl) (by kernel_rfl) (by kernel_rfl) (fun _ _ _ h => h) (Or.inl ⟨by rfl, ?_⟩) (by assumption) ?_
      rotate_left
      · (intro w hSw; (try dsimp only at hSw); go_simp; try with_reducible rfl)
      try simp only [Act.put, List.setIfInBounds_toArray, List.set_cons_zero, List.set_cons_succ]
      refine wpAnyH_take (i := 6) (oi := ⟨some 47, _, _, _, _, _⟩) (v := ?_) rfl (by kernel_rfl) (by kernel_rfl) (by kernel_rfl) (fun _ _ _ h => h) (Or.inl ⟨by rfl, ?_⟩) (by assumption) ?_
      rotate_left
      · (intro w hSw; (try dsimp only at hSw); go_simp; try with_reducible rfl)
      try simp only [Act.put, List.setIfInBounds_toArray, List.set_cons_zero, List.set_cons_succ]
      refine wpAnyH_take (i := 7) (oi := ⟨some 48, _, _, _, _, _⟩) (v := ?_) rfl (by kernel_rfl) (by kernel_rfl) (by kernel_rfl) (fun _ _ _ h => h) (Or.inl ⟨by rfl, ?_⟩) (by assumption) ?_
      rotate_left
      · (intro w hSw; (try dsimp only at hSw); go_simp; try with_reducible rfl)
      try simp only [Act.put, List.setIfInBounds_toArray, List.set_cons_zero, List.set_cons_succ]
      refine wpAnyH_ready (rs := [2]) (by kernel_rfl) (by simp) ?_
      refine AllReadyH.cons (o := ⟨some 43, _, _, _, _, _⟩) rfl (fun K hK => ?_) AllReadyH.nil
      go_simp
      refine (hist_Ahead_b x y _).mono ?_
      rintro e w6 ⟨rfl, hb6⟩
      have G6 := Lib.hid hb6
      clear hb6
      go_wp2_with fail
      refine hK.out _ _ ?_ (fun hHeldX => ?_)
      · first | exact seven_S (BX.out.below G6.out BX.out.lt) (BY.out.below G6.out BY.out.lt) | exact seven_S BX.out BY.out
      clear hK K hHeld
      rename _ => hHeld
      try simp only [Act.put, List.setIfInBounds_toArray, List.set_cons_zero, List.set_cons_succ]
      refine wpAnyH_take (i := 8) (oi := ⟨some 49, _, _, _, _, _⟩) (v := ?_) rfl (by kernel_rfl) (by kernel_rfl) (by kernel_rfl) (fun _ _ _ h => h) (Or.inl ⟨by rfl, ?_⟩) (by assumption) ?_
      rotate_left
      · (intro w hSw; (try dsimp only at hSw); go_simp; try with_reducible rfl)
      try simp only [Act.put, List.setIfInBounds_toArray, List.set_cons_zero, List.set_cons_succ]
      refine wpAnyH_done (by kernel_rfl) ?_ _
      refine NoPanic.normal ?_
      have hb := Lib.hid (below_step (below_draws LO.out 1) G6.out)
      clear G6 BX BY LO
      generalize w6 = wB at hb ⊢
      go_upto_region 9 with fail
      go_cut [11] from 50 to 52 (fun s wx => ∃ g cp : Nat, s = .slice (some ⟨g, 0, none⟩) D.length cp ∧ Hid (CopyIs w wB wx g cp D))
      case first =>
        obtain ⟨i1, hi1, hz0, hz1, hz2⟩ := info_parts infoBool
        have hown0 : (wB.alloc (.cells #[] 4)).ownsRow wB.heap.size 4 1 (.slice (some ⟨wB.heap.size, 0, none⟩) 0 0) 0 [] := ⟨rfl, .inr ⟨wB.heap.size, 0, #[], rfl, Nat.le_refl _, Blk.new (l := []), Nat.le_refl _, Nat.zero_le _, rfl, rfl⟩⟩
        have bb : Below wB.heap.size wB (wB.alloc (.cells #[] 4)) := (Below.refl _ _).alloc (Nat.le_refl _) _
        have hsrc : ∀ j u, (D.map Value.bool)[j]? = some u → (wB.alloc (.cells #[] 4)).cell? (a0.add j) = some u := fun j u hu => by
          rw [List.getElem?_map, Option.map_eq_some_iff] at hu
          obtain ⟨x, hx, rfl⟩ := hu
          obtain ⟨b, off, e, hbl, hc⟩ := ((HD.out.below hb.out).below bb) j x hx
          cases e
          rw [addr_add]
          exact hc
        have S := Lib.hid hsrc
        clear hsrc
        go_wp2_with (at_builtin; with_reducible show wpList _ _ _ (⟨some 52, _, _, _, _, _⟩ :: _) _ _; go_loud (refine wpList_append_own _ rfl _ _ 47 rfl wB.heap.size 4 i1 (.bool false) 1 1 Try.underlying47 hi1 hz0 hz1 hz2 rfl (by decide) (.slice (some ⟨wB.heap.size, 0, none⟩) 0 0) 0 [] rfl hown0 a0 D.length capd (D.map Value.bool) rfl (by simp) S.out (bools_one D) (by simp only [maxLen]; omega) (by omega) (by simp) ?_); intro v1 w1 hown1 hgrow1 hnil1)
        have hown1 : w1.ownsRow wB.heap.size 4 1 v1 D.length (D.map Value.bool) := by simpa using hown1
        obtain ⟨g, cp, rfl⟩ : ∃ g cp, v1 = .slice (some ⟨g, 0, none⟩) D.length cp := by
          rcases hown1.2 with ⟨e, e2⟩ | ⟨g, cp, cur, e, _⟩
          · exact absurd e (by first | exact hnil1 | (intro h; simp [h] at hnil1))
          · exact ⟨g, cp, e⟩
        have K := Lib.hid (CopyIs.mk (w := w) hown1 (own_cap hown1) (below_step hb.out (bb.grown hgrow1 (by simp) (fun j e => by cases e; exact Nat.le_refl _))))
        go_meet
        case rel => exact ⟨_, _, rfl, K⟩
      case rest =>
        obtain ⟨g, cp, rfl, CI⟩ := hcut
        by_cases hgt : L.length < D.length
        · have HN : Hid ((D.take L.length).length = L.length) := Lib.hid (by rw [List.length_take]; omega)
          have hcp : L.length ≤ cp := Nat.le_trans (Nat.le_of_lt hgt) CI.out.le
          have CL := Lib.hid (show CallsIn wc (.slice (some ⟨b, off, none⟩) L.length cap) L from ⟨(some ⟨b, off, none⟩), cap, rfl, H.out.below CI.out.low⟩)
          have DL := Lib.hid (listIn_own CI.out.row L.length)
          have LO := Lib.hid CI.out.low
          have hlen := Lib.hid (refMin_len L (D.take L.length) L.length)
          clear CI
          go_wp2_with fail
          refine (hist_Right CL.out HW.out (by omega)).mono ?_
          rw [right_same L (by omega)]
          rintro e w1 ⟨rfl, hb1⟩
          have CL1 := Lib.hid (CL.out.below hb1)
          have DL1 := Lib.hid (DL.out.below hb1)
          have LO1 := Lib.hid (below_step LO.out hb1)
          clear CL DL LO hb1
          go_wp2_with fail
          refine (ref_Right CL1.out (by omega)).mono ?_
          rintro e w2 ⟨rfl, n2, rfl⟩
          have hb2 : Below w1.heap.size w1 (w1.drewN n2) := below_draws (Below.refl _ _) n2
          have CL2 := Lib.hid (CL1.out.below hb2)
          have DL2 := Lib.hid (DL1.out.below hb2)
          have LO2 := Lib.hid (below_step LO1.out hb2)
          clear CL1 DL1 LO1 hb2
          generalize w1.drewN n2 = w2 at CL2 DL2 LO2 ⊢
          have hee : (rightR [] L == rightR [] L) = true := by simp
          generalize rightR [] L = rr at hee ⊢
          go_wp2_with fail
          refine (hist_Minimal_n CL2.out (by omega) DL2.out HN.out).mono ?_
          rintro e w3 ⟨r3, rfl, hn3, hb3⟩
          have CL3 := Lib.hid (CL2.out.below hb3)
          have DL3 := Lib.hid (DL2.out.below hb3)
          have LO3 := Lib.hid (below_step LO2.out hb3)
          have N3 := Lib.hid hn3
          clear CL2 DL2 LO2 hb3 hn3
          go_wp2_with fail
          refine (ref_Minimal_n CL3.out (by omega) DL3.out (by rw [List.length_take]; exact Nat.min_le_left _ _) HN.out).mono ?_
          rintro e w4 ⟨r4, rfl, hn4, hb4⟩
          have N4 := Lib.hid (And.intro (N3.out.below hb4) hn4)
          have LO4 := Lib.hid (below_step LO3.out hb4)
          clear CL3 DL3 LO3 N3 hb4 hn4
          go_wp2_with fail
          refine (ints_refl N4.out.1 N4.out.2 (by have := hlen.out; omega)).mono ?_
          rintro e w5 ⟨rfl, hb5⟩
          go_wp2
          go_ret
          exact ⟨rfl, below_step LO4.out hb5⟩
        · have HN : Hid ((D.take L.length).length = D.length) := Lib.hid (by rw [List.length_take]; omega)
          have CL := Lib.hid (show CallsIn wc (.slice (some ⟨b, off, none⟩) L.length cap) L from ⟨(some ⟨b, off, none⟩), cap, rfl, H.out.below CI.out.low⟩)
          have DL := Lib.hid (listIn_own CI.out.row L.length)
          have LO := Lib.hid CI.out.low
          have hlen := Lib.hid (refMin_len L (D.take L.length) L.length)
          clear CI
          go_wp2_with fail
          refine (hist_Right CL.out HW.out (by omega)).mono ?_
          rw [right_same L (by omega)]
          rintro e w1 ⟨rfl, hb1⟩
          have CL1 := Lib.hid (CL.out.below hb1)
          have DL1 := Lib.hid (DL.out.below hb1)
          have LO1 := Lib.hid (below_step LO.out hb1)
          clear CL DL LO hb1
          go_wp2_with fail
          refine (ref_Right CL1.out (by omega)).mono ?_
          rintro e w2 ⟨rfl, n2, rfl⟩
          have hb2 : Below w1.heap.size w1 (w1.drewN n2) := below_draws (Below.refl _ _) n2
          have CL2 := Lib.hid (CL1.out.below hb2)
          have DL2 := Lib.hid (DL1.out.below hb2)
          have LO2 := Lib.hid (below_step LO1.out hb2)
          clear CL1 DL1 LO1 hb2
          generalize w1.drewN n2 = w2 at CL2 DL2 LO2 ⊢
          have hee : (rightR [] L == rightR [] L) = true := by simp
          generalize rightR [] L = rr at hee ⊢
          go_wp2_with fail
          refine (hist_Minimal_n CL2.out (by omega) DL2.out HN.out).mono ?_
          rintro e w3 ⟨r3, rfl, hn3, hb3⟩
          have CL3 := Lib.hid (CL2.out.below hb3)
          have DL3 := Lib.hid (DL2.out.below hb3)
          have LO3 := Lib.hid (below_step LO2.out hb3)
          have N3 := Lib.hid hn3
          clear CL2 DL2 LO2 hb3 hn3
          go_wp2_with fail
          refine (ref_Minimal_n CL3.out (by omega) DL3.out (by rw [List.length_take]; exact Nat.min_le_left _ _) HN.out).mono ?_
          rintro e w4 ⟨r4, rfl, hn4, hb4⟩
          have N4 := Lib.hid (And.intro (N3.out.below hb4) hn4)
          have LO4 := Lib.hid (below_step LO3.out hb4)
          clear CL3 DL3 LO3 N3 hb4 hn4
          go_wp2_with fail
          refine (ints_refl N4.out.1 N4.out.2 (by have := hlen.out; omega)).mono ?_
          rintro e w5 ⟨rfl, hb5⟩
          go_wp2
          go_ret
          exact ⟨rfl, below_step LO4.out hb5⟩
  · have hb := Lib.hid hbA
    generalize wA = wB at hb ⊢
    go_upto_region 9 with fail
    go_cut [11] from 50 to 52 (fun s wx => ∃ g cp : Nat, s = .slice (some ⟨g, 0, none⟩) D.length cp ∧ Hid (CopyIs w wB wx g cp D))
    case first =>
      obtain ⟨i1, hi1, hz0, hz1, hz2⟩ := info_parts infoBool
      have hown0 : (wB.alloc (.cells #[] 4)).ownsRow wB.heap.size 4 1 (.slice (some ⟨wB.heap.size, 0, none⟩) 0 0) 0 [] := ⟨rfl, .inr ⟨wB.heap.size, 0, #[], rfl, Nat.le_refl _, Blk.new (l := []), Nat.le_refl _, Nat.zero_le _, rfl, rfl⟩⟩
      have bb : Below wB.heap.size wB (wB.alloc (.cells #[] 4)) := (Below.refl _ _).alloc (Nat.le_refl _) _
      have hsrc : ∀ j u, (D.map Value.bool)[j]? = some u → (wB.alloc (.cells #[] 4)).cell? (a0.add j) = some u := fun j u hu => by
        rw [List.getElem?_map, Option.map_eq_some_iff] at hu
        obtain ⟨x, hx, rfl⟩ := hu
        obtain ⟨b, off, e, hbl, hc⟩ := ((HD.out.below hb.out).below bb) j x hx
        cases e
        rw [addr_add]
        exact hc
      have S := Lib.hid hsrc
      clear hsrc
      go_wp2_with (at_builtin; with_reducible show wpList _ _ _ (⟨some 52, _, _, _, _, _⟩ :: _) _ _; go_loud (refine wpList_append_own _ rfl _ _ 47 rfl wB.heap.size 4 i1 (.bool false) 1 1 Try.underlying47 hi1 hz0 hz1 hz2 rfl (by decide) (.slice (some ⟨wB.heap.size, 0, none⟩) 0 0) 0 [] rfl hown0 a0 D.length capd (D.map Value.bool) rfl (by simp) S.out (bools_one D) (by simp only [maxLen]; omega) (by omega) (by simp) ?_); intro v1 w1 hown1 hgrow1 hnil1)
      have hown1 : w1.ownsRow wB.heap.size 4 1 v1 D.length (D.map Value.bool) := by simpa using hown1
      obtain ⟨g, cp, rfl⟩ : ∃ g cp, v1 = .slice (some ⟨g, 0, none⟩) D.length cp := by
        rcases hown1.2 with ⟨e, e2⟩ | ⟨g, cp, cur, e, _⟩
        · exact absurd e (by first | exact hnil1 | (intro h; simp [h] at hnil1))
        · exact ⟨g, cp, e⟩
      have K := Lib.hid (CopyIs.mk (w := w) hown1 (own_cap hown1) (below_step hb.out (bb.grown hgrow1 (by simp) (fun j e => by cases e; exact Nat.le_refl _))))
      go_meet
      case rel => exact ⟨_, _, rfl, K⟩
    case rest =>
      obtain ⟨g, cp, rfl, CI⟩ := hcut
      by_cases hgt : L.length < D.length
      · have HN : Hid ((D.take L.length).length = L.length) := Lib.hid (by rw [List.length_take]; omega)
        have hcp : L.length ≤ cp := Nat.le_trans (Nat.le_of_lt hgt) CI.out.le
        have CL := Lib.hid (show CallsIn wc (.slice a L.length cap) L from ⟨a, cap, rfl, H.out.below CI.out.low⟩)
        have DL := Lib.hid (listIn_own CI.out.row L.length)
        have LO := Lib.hid CI.out.low
        have hlen := Lib.hid (refMin_len L (D.take L.length) L.length)
        clear CI
        go_wp2_with fail
        refine (hist_Right CL.out HW.out (by omega)).mono ?_
        rw [right_same L (by omega)]
        rintro e w1 ⟨rfl, hb1⟩
        have CL1 := Lib.hid (CL.out.below hb1)
        have DL1 := Lib.hid (DL.out.below hb1)
        have LO1 := Lib.hid (below_step LO.out hb1)
        clear CL DL LO hb1
        go_wp2_with fail
        refine (ref_Right CL1.out (by omega)).mono ?_
        rintro e w2 ⟨rfl, n2, rfl⟩
        have hb2 : Below w1.heap.size w1 (w1.drewN n2) := below_draws (Below.refl _ _) n2
        have CL2 := Lib.hid (CL1.out.below hb2)
        have DL2 := Lib.hid (DL1.out.below hb2)
        have LO2 := Lib.hid (below_step LO1.out hb2)
        clear CL1 DL1 LO1 hb2
        generalize w1.drewN n2 = w2 at CL2 DL2 LO2 ⊢
        have hee : (rightR [] L == rightR [] L) = true := by simp
        generalize rightR [] L = rr at hee ⊢
        go_wp2_with fail
        refine (hist_Minimal_n CL2.out (by omega) DL2.out HN.out).mono ?_
        rintro e w3 ⟨r3, rfl, hn3, hb3⟩
        have CL3 := Lib.hid (CL2.out.below hb3)
        have DL3 := Lib.hid (DL2.out.below hb3)
        have LO3 := Lib.hid (below_step LO2.out hb3)
        have N3 := Lib.hid hn3
        clear CL2 DL2 LO2 hb3 hn3
        go_wp2_with fail
        refine (ref_Minimal_n CL3.out (by omega) DL3.out (by rw [List.length_take]; exact Nat.min_le_left _ _) HN.out).mono ?_
        rintro e w4 ⟨r4, rfl, hn4, hb4⟩
        have N4 := Lib.hid (And.intro (N3.out.below hb4) hn4)
        have LO4 := Lib.hid (below_step LO3.out hb4)
        clear CL3 DL3 LO3 N3 hb4 hn4
        go_wp2_with fail
        refine (ints_refl N4.out.1 N4.out.2 (by have := hlen.out; omega)).mono ?_
        rintro e w5 ⟨rfl, hb5⟩
        go_wp2
        go_ret
        exact ⟨rfl, below_step LO4.out hb5⟩
      · have HN : Hid ((D.take L.length).length = D.length) := Lib.hid (by rw [List.length_take]; omega)
        have CL := Lib.hid (show CallsIn wc (.slice a L.length cap) L from ⟨a, cap, rfl, H.out.below CI.out.low⟩)
        have DL := Lib.hid (listIn_own CI.out.row L.length)
        have LO := Lib.hid CI.out.low
        have hlen := Lib.hid (refMin_len L (D.take L.length) L.length)
        clear CI
        go_wp2_with fail
        refine (hist_Right CL.out HW.out (by omega)).mono ?_
        rw [right_same L (by omega)]
        rintro e w1 ⟨rfl, hb1⟩
        have CL1 := Lib.hid (CL.out.below hb1)
        have DL1 := Lib.hid (DL.out.below hb1)
        have LO1 := Lib.hid (below_step LO.out hb1)
        clear CL DL LO hb1
        go_wp2_with fail
        refine (ref_Right CL1.out (by omega)).mono ?_
        rintro e w2 ⟨rfl, n2, rfl⟩
        have hb2 : Below w1.heap.size w1 (w1.drewN n2) := below_draws (Below.refl _ _) n2
        have CL2 := Lib.hid (CL1.out.below hb2)
        have DL2 := Lib.hid (DL1.out.below hb2)
        have LO2 := Lib.hid (below_step LO1.out hb2)
        clear CL1 DL1 LO1 hb2
        generalize w1.drewN n2 = w2 at CL2 DL2 LO2 ⊢
        have hee : (rightR [] L == rightR [] L) = true := by simp
        generalize rightR [] L = rr at hee ⊢
        go_wp2_with fail
        refine (hist_Minimal_n CL2.out (by omega) DL2.out HN.out).mono ?_
        rintro e w3 ⟨r3, rfl, hn3, hb3⟩
        have CL3 := Lib.hid (CL2.out.below hb3)
        have DL3 := Lib.hid (DL2.out.below hb3)
        have LO3 := Lib.hid (below_step LO2.out hb3)
        have N3 := Lib.hid hn3
        clear CL2 DL2 LO2 hb3 hn3
        go_wp2_with fail
        refine (ref_Minimal_n CL3.out (by omega) DL3.out (by rw [List.length_take]; exact Nat.min_le_left _ _) HN.out).mono ?_
        rintro e w4 ⟨r4, rfl, hn4, hb4⟩
        have N4 := Lib.hid (And.intro (N3.out.below hb4) hn4)
        have LO4 := Lib.hid (below_step LO3.out hb4)
        clear CL3 DL3 LO3 N3 hb4 hn4
        go_wp2_with fail
        refine (ints_refl N4.out.1 N4.out.2 (by have := hlen.out; omega)).mono ?_
        rintro e w5 ⟨rfl, hb5⟩
        go_wp2
        go_ret
        exact ⟨rfl, below_step LO4.out hb5⟩
set_option maxHeartbeats 8000000 in
set_option maxRecDepth 100000 in
theorem law_right_none {w : World} {a : Option Addr} {cap : Nat} {L : List CallZ} (hL : RecsIn 15 callV w a L) (hW : WfCalls L)  (i k : Int) (hi : 0 ≤ i ∧ i < 256) (hk : 0 ≤ k ∧ k < 256) :
    Calls Try.prog 4 #[.slice a L.length cap, .slice none 0 0, .int .u8 i, .int .u8 k] w fun e w' => e = .returned (.bool true) ∧ Below w.heap.size w w' := by
  have H := Lib.hid hL
  have HW := Lib.hid hW
  clear hL hW
  go_enter Try.func4, Try.ntmps4
  go_wp2_with fail
  refine (law_awake w).mono ?_
  rintro e wA ⟨rfl, hbA⟩
  by_cases h60 : 60 < L.length
  · have h60' : decide (60 < L.length) = true := by simpa using h60
    go_wp2
    go_ret
    exact ⟨rfl, hbA⟩
  by_cases h0 : 0 < L.length
  · obtain ⟨p, hp, hpl⟩ : ∃ p : Nat, i.tmod (L.length : Int) = (p : Int) ∧ p < L.length := ⟨(i.tmod (L.length : Int)).toNat, by
      have := Int.tmod_nonneg (L.length : Int) hi.1
      omega, by
      have := Int.tmod_nonneg (L.length : Int) hi.1
      have := Int.tmod_lt_of_pos i (show (0 : Int) < (L.length : Int) by omega)
      omega⟩
    obtain ⟨q, hq, hql⟩ : ∃ q : Nat, k.tmod (L.length : Int) = (q : Int) ∧ q < L.length := ⟨(k.tmod (L.length : Int)).toNat, by
      have := Int.tmod_nonneg (L.length : Int) hk.1
      omega, by
      have := Int.tmod_nonneg (L.length : Int) hk.1
      have := Int.tmod_lt_of_pos k (show (0 : Int) < (L.length : Int) by omega)
      omega⟩
    obtain ⟨b, off, rfl, hb, hrx⟩ := (H.out.below hbA).range hpl
    obtain ⟨b', off', e', _, hry⟩ := (H.out.below hbA).range hql
    cases e'
    generalize L[p] = x at hrx
    generalize L[q] = y at hry
    have XY : Hid (wA.rangeAt b (off + p * 15) (callV x) ∧ wA.rangeAt b (off + q * 15) (callV y) ∧ b < wA.heap.size) := Lib.hid ⟨hrx, hry, hb⟩
    have M0 : Hid (Below wA.heap.size wA wA.drew) := Lib.hid (below_draws (Below.refl _ _) 1)
    clear hrx hry
    have hp2 : (p : Int) < (L.length : Int) := by omega
    have hp3 : (0 : Int) ≤ (p : Int) := by omega
    have hq2 : (q : Int) < (L.length : Int) := by omega
    have hq3 : (0 : Int) ≤ (q : Int) := by omega
    have hwi : IntKind.i64.wrap i = i := by rw [IntKind.wrap_i64]; omega
    have hwk : IntKind.i64.wrap k = k := by rw [IntKind.wrap_i64]; omega
    have hne : ¬ L = [] := fun e => by rw [e] at h0; simp at h0
    go_wp2_with fail
    go_cut [9, 10] from 25 to 40 (fun s9 s10 wx => ∃ p9 p10 : Nat, s9 = .pointer (some ⟨p9, 0, none⟩) ∧ s10 = .pointer (some ⟨p10, 0, none⟩) ∧ Hid (Blk 42 wx p9 (callV x)) ∧ Hid (Blk 42 wx p10 (callV y)) ∧ Hid (Below w.heap.size w wx))
    case first =>
      refine wp_region_noPanic ?_
      refine wp_region_held_drew (S := (fun w' => w'.rangeAt b (off + p * 15) (callV x) ∧ w'.rangeAt b (off + q * 15) (callV y))) (by kernel_rfl) ?_ (fun hHeld => ?_)
      · first | exact two_S XY.out M4.out.low | exact two_S XY.out M3.out.low | exact two_S XY.out M2.out.low | exact two_S XY.out M1.out.low | exact two_S XY.out M0.out
      refine wpAnyH_take (i := 0) (oi := ⟨some 25, _, _, _, _, _⟩) (v := ?_) rfl (by kernel_rfl) (by kernel_rfl) (by kernel_rfl) (fun _ _ _ h => h) (Or.inl ⟨by rfl, ?_⟩) (by assumption) ?_
      rotate_left
      · (intro w hSw; (try dsimp only at hSw); go_simp; try with_reducible rfl)
      try simp only [Act.put, List.setIfInBounds_toArray, List.set_cons_zero, List.set_cons_succ]
      refine wpAnyH_take (i := 1) (oi := ⟨some 26, _, _, _, _, _⟩) (v := ?_) rfl (by kernel_rfl) (by kernel_rfl) (by kernel_rfl) (fun _ _ _ h => h) (Or.inl ⟨by rfl, ?_⟩) (by assumption) ?_
      rotate_left
      · (intro w hSw; (try dsimp only at hSw); go_simp; try with_reducible rfl)
      try simp only [Act.put, List.setIfInBounds_toArray, List.set_cons_zero, List.set_cons_succ]
      refine wpAnyH_take (i := 2) (oi := ⟨some 27, _, _, _, _, _⟩) (v := ?_) rfl (by kernel_rfl) (by kernel_rfl) (by kernel_rfl) (fun _ _ _ h => h) (Or.inl ⟨by rfl, ?_⟩) (by assumption) ?_
      rotate_left
      · (intro w hSw; (try dsimp only at hSw); go_simp; try with_reducible rfl)
      try simp only [Act.put, List.setIfInBounds_toArray, List.set_cons_zero, List.set_cons_succ]
      refine wpAnyH_take (i := 3) (oi := ⟨some 28, _, _, _, _, _⟩) (v := ?_) rfl (by kernel_rfl) (by kernel_rfl) (by kernel_rfl) (fun _ _ _ h => h) (Or.inl ⟨by rfl, ?_⟩) (by assumption) ?_
      rotate_left
      · (intro w hSw; (try dsimp only at hSw); go_simp; try with_reducible rfl)
      try simp only [Act.put, List.setIfInBounds_toArray, List.set_cons_zero, List.set_cons_succ]
      refine wpAnyH_take (i := 4) (oi := ⟨some 29, _, _, _, _, _⟩) (v := ?_) rfl (by kernel_rfl) (by kernel_rfl) (by kernel_rfl) (fun _ _ _ h => h) (Or.inl ⟨by rfl, ?_⟩) (by assumption) ?_
      rotate_left
      · (intro w hSw; (try dsimp only at hSw); go_simp; try with_reducible rfl)
      try simp only [Act.put, List.setIfInBounds_toArray, List.set_cons_zero, List.set_cons_succ]
      refine wpAnyH_take (i := 5) (oi := ⟨some 30, _, _, _, _, _⟩) (v := ?_) rfl (by kernel_rfl) (by kernel_rfl) (by kernel_rfl) (fun _ _ _ h => h) (Or.inl ⟨by rfl, ?_⟩) (by assumption) ?_
      rotate_left
      · (intro w hSw; (try dsimp only at hSw); go_simp; try with_reducible rfl)
      try simp only [Act.put, List.setIfInBounds_toArray, List.set_cons_zero, List.set_cons_succ]
      refine wpAnyH_take (i := 6) (oi := ⟨some 31, _, _, _, _, _⟩) (v := ?_) rfl (by kernel_rfl) (by kernel_rfl) (by kernel_rfl) (fun _ _ _ h => h) (Or.inl ⟨by rfl, ?_⟩) (by assumption) ?_
      rotate_left
      · (intro w hSw; (try dsimp only at hSw); go_simp; try with_reducible rfl)
      try simp only [Act.put, List.setIfInBounds_toArray, List.set_cons_zero, List.set_cons_succ]
      refine wpAnyH_take (i := 7) (oi := ⟨some 32, _, _, _, _, _⟩) (v := callA x) rfl (by kernel_rfl) (by kernel_rfl) (by kernel_rfl) (fun _ _ _ h => h) (yieldsIf_load_mid (by rfl) 42 _ rfl b (off + p * 15) rfl (callV x) _ (fun w h => h.1) Try.underlying42 rfl (by kernel_rfl)) (by assumption) ?_
      try simp only [Act.put, List.setIfInBounds_toArray, List.set_cons_zero, List.set_cons_succ]
      refine wpAnyH_take (i := 8) (oi := ⟨some 33, _, _, _, _, _⟩) (v := ?_) rfl (by kernel_rfl) (by kernel_rfl) (by kernel_rfl) (fun _ _ _ h => h) (Or.inl ⟨by rfl, ?_⟩) (by assumption) ?_
      rotate_left
      · (intro w hSw; (try dsimp only at hSw); go_simp; try with_reducible rfl)
      try simp only [Act.put, List.setIfInBounds_toArray, List.set_cons_zero, List.set_cons_succ]
      refine wpAnyH_take (i := 9) (oi := ⟨some 34, _, _, _, _, _⟩) (v := ?_) rfl (by kernel_rfl) (by kernel_rfl) (by kernel_rfl) (fun _ _ _ h => h) (Or.inl ⟨by rfl, ?_⟩) (by assumption) ?_
      rotate_left
      · (intro w hSw; (try dsimp only at hSw); go_simp; try with_reducible rfl)
      try simp only [Act.put, List.setIfInBounds_toArray, List.set_cons_zero, List.set_cons_succ]
      refine wpAnyH_take (i := 10) (oi := ⟨some 35, _, _, _, _, _⟩) (v := ?_) rfl (by kernel_rfl) (by kernel_rfl) (by kernel_rfl) (fun _ _ _ h => h) (Or.inl ⟨by rfl, ?_⟩) (by assumption) ?_
      rotate_left
      · (intro w hSw; (try dsimp only at hSw); go_simp; try with_reducible rfl)
      try simp only [Act.put, List.setIfInBounds_toArray, List.set_cons_zero, List.set_cons_succ]
      refine wpAnyH_take (i := 11) (oi := ⟨some 36, _, _, _, _, _⟩) (v := ?_) rfl (by kernel_rfl) (by kernel_rfl) (by kernel_rfl) (fun _ _ _ h => h) (Or.inl ⟨by rfl, ?_⟩) (by assumption) ?_
      rotate_left
      · (intro w hSw; (try dsimp only at hSw); go_simp; try with_reducible rfl)
      try simp only [Act.put, List.setIfInBounds_toArray, List.set_cons_zero, List.set_cons_succ]
      refine wpAnyH_take (i := 12) (oi := ⟨some 37, _, _, _, _, _⟩) (v := ?_) rfl (by kernel_rfl) (by kernel_rfl) (by kernel_rfl) (fun _ _ _ h => h) (Or.inl ⟨by rfl, ?_⟩) (by assumption) ?_
      rotate_left
      · (intro w hSw; (try dsimp only at hSw); go_simp; try with_reducible rfl)
      try simp only [Act.put, List.setIfInBounds_toArray, List.set_cons_zero, List.set_cons_succ]
      refine wpAnyH_take (i := 13) (oi := ⟨some 38, _, _, _, _, _⟩) (v := ?_) rfl (by kernel_rfl) (by kernel_rfl) (by kernel_rfl) (fun _ _ _ h => h) (Or.inl ⟨by rfl, ?_⟩) (by assumption) ?_
      rotate_left
      · (intro w hSw; (try dsimp only at hSw); go_simp; try with_reducible rfl)
      try simp only [Act.put, List.setIfInBounds_toArray, List.set_cons_zero, List.set_cons_succ]
      refine wpAnyH_take (i := 14) (oi := ⟨some 39, _, _, _, _, _⟩) (v := ?_) rfl (by kernel_rfl) (by kernel_rfl) (by kernel_rfl) (fun _ _ _ h => h) (Or.inl ⟨by rfl, ?_⟩) (by assumption) ?_
      rotate_left
      · (intro w hSw; (try dsimp only at hSw); go_simp; try with_reducible rfl)
      try simp only [Act.put, List.setIfInBounds_toArray, List.set_cons_zero, List.set_cons_succ]
      refine wpAnyH_take (i := 15) (oi := ⟨some 40, _, _, _, _, _⟩) (v := callA y) rfl (by kernel_rfl) (by kernel_rfl) (by kernel_rfl) (fun _ _ _ h => h) (yieldsIf_load_mid (by rfl) 42 _ rfl b (off + q * 15) rfl (callV y) _ (fun w h => h.2) Try.underlying42 rfl (by kernel_rfl)) (by assumption) ?_
      try simp only [Act.put, List.setIfInBounds_toArray, List.set_cons_zero, List.set_cons_succ]
      refine wpAnyH_ready (rs := [16, 17]) (by kernel_rfl) (by simp) ?_
      refine AllReadyH.cons (o := ⟨some 9, _, _, _, _, _⟩) rfl (fun K hK => ?_) (AllReadyH.cons (o := ⟨some 10, _, _, _, _, _⟩) rfl (fun K hK => ?_) AllReadyH.nil)
      · go_simp
        show K _ ((wA.alloc (.cells (callV default).toArray 42)).drew)
        obtain ⟨W1, hW1⟩ : ∃ W1, (wA.alloc (.cells (callV default).toArray 42)).drew = W1 := ⟨_, rfl⟩
        rw [hW1]
        have M1 := Lib.hid (Made1.mk1 hW1)
        have z1 := M1.out.sz
        clear hW1
        refine hK.out _ _ ?_ (fun hHeldX => ?_)
        · first | exact two_S XY.out M4.out.low | exact two_S XY.out M3.out.low | exact two_S XY.out M2.out.low | exact two_S XY.out M1.out.low | exact two_S XY.out M0.out
        clear hK K hHeld
        rename _ => hHeld
        try simp only [Act.put, List.setIfInBounds_toArray, List.set_cons_zero, List.set_cons_succ]
        refine wpAnyH_ready (rs := [17]) (by kernel_rfl) (by simp) ?_
        refine AllReadyH.cons (o := ⟨some 10, _, _, _, _, _⟩) rfl (fun K hK => ?_) AllReadyH.nil
        go_simp
        show K _ (W1.alloc (.cells (callV default).toArray 42))
        obtain ⟨W2, hW2⟩ : ∃ W2, W1.alloc (.cells (callV default).toArray 42) = W2 := ⟨_, rfl⟩
        rw [hW2]
        have M2 := Lib.hid (M1.out.mk2 hW2)
        clear hW2
        refine hK.out _ _ ?_ (fun hHeldX => ?_)
        · first | exact two_S XY.out M4.out.low | exact two_S XY.out M3.out.low | exact two_S XY.out M2.out.low | exact two_S XY.out M1.out.low | exact two_S XY.out M0.out
        clear hK K hHeld
        rename _ => hHeld
        try simp only [Act.put, List.setIfInBounds_toArray, List.set_cons_zero, List.set_cons_succ]
        refine wpAnyH_ready (rs := [18]) (by kernel_rfl) (by simp) ?_
        refine AllReadyH.cons (o := ⟨none, _, _, _, _, _⟩) rfl (fun K hK => ?_) AllReadyH.nil
        refine step_store_mid rfl 42 (.tmp 9) (.tmp 32) rfl (wA.heap.size) 0 (callV x).toArray rfl rfl (blk_there M2.out.ba 0 15 (by decide)) (by kernel_rfl) (callA_one x) ?_
        obtain ⟨W3, hW3⟩ : ∃ W3, W2.setCells (wA.heap.size) 0 (callV x) = W3 := ⟨_, rfl⟩
        rw [show (callV x).toArray.toList = callV x from rfl, hW3]
        have M3 := Lib.hid (M2.out.setA hW3)
        clear hW3
        refine hK.out _ _ ?_ (fun hHeldX => ?_)
        · first | exact two_S XY.out M4.out.low | exact two_S XY.out M3.out.low | exact two_S XY.out M2.out.low | exact two_S XY.out M1.out.low | exact two_S XY.out M0.out
        clear hK K hHeld
        rename _ => hHeld
        simp only [Act.put]
        refine wpAnyH_ready (rs := [19]) (by kernel_rfl) (by simp) ?_
        refine AllReadyH.cons (o := ⟨none, _, _, _, _, _⟩) rfl (fun K hK => ?_) AllReadyH.nil
        refine step_store_mid rfl 42 (.tmp 10) (.tmp 40) rfl (wA.heap.size + 1) 0 (callV y).toArray rfl rfl (blk_there M3.out.bb 0 15 (by decide)) (by kernel_rfl) (callA_one y) ?_
        obtain ⟨W4, hW4⟩ : ∃ W4, W3.setCells (wA.heap.size + 1) 0 (callV y) = W4 := ⟨_, rfl⟩
        rw [show (callV y).toArray.toList = callV y from rfl, hW4]
        have M4 := Lib.hid (M3.out.setB hW4)
        clear hW4
        refine hK.out _ _ ?_ (fun hHeldX => ?_)
        · first | exact two_S XY.out M4.out.low | exact two_S XY.out M3.out.low | exact two_S XY.out M2.out.low | exact two_S XY.out M1.out.low | exact two_S XY.out M0.out
        clear hK K hHeld
        rename _ => hHeld
        simp only [Act.put]
        refine wpAnyH_done (by kernel_rfl) ?_ _
        refine NoPanic.normal ?_
        go_wp2_with fail
        go_meet
        case rel => exact ⟨wA.heap.size, wA.heap.size + 1, rfl, rfl, Lib.hid M4.out.ba, Lib.hid M4.out.bb, Lib.hid (below_step hbA M4.out.low)⟩
      · go_simp
        show K _ ((wA.alloc (.cells (callV default).toArray 42)).drew)
        obtain ⟨W1, hW1⟩ : ∃ W1, (wA.alloc (.cells (callV default).toArray 42)).drew = W1 := ⟨_, rfl⟩
        rw [hW1]
        have M1 := Lib.hid (Made1.mk1 hW1)
        have z1 := M1.out.sz
        clear hW1
        refine hK.out _ _ ?_ (fun hHeldX => ?_)
        · first | exact two_S XY.out M4.out.low | exact two_S XY.out M3.out.low | exact two_S XY.out M2.out.low | exact two_S XY.out M1.out.low | exact two_S XY.out M0.out
        clear hK K hHeld
        rename _ => hHeld
        try simp only [Act.put, List.setIfInBounds_toArray, List.set_cons_zero, List.set_cons_succ]
        refine wpAnyH_ready (rs := [16]) (by kernel_rfl) (by simp) ?_
        refine AllReadyH.cons (o := ⟨some 9, _, _, _, _, _⟩) rfl (fun K hK => ?_) AllReadyH.nil
        go_simp
        show K _ (W1.alloc (.cells (callV default).toArray 42))
        obtain ⟨W2, hW2⟩ : ∃ W2, W1.alloc (.cells (callV default).toArray 42) = W2 := ⟨_, rfl⟩
        rw [hW2]
        have M2 := Lib.hid (M1.out.mk2 hW2)
        clear hW2
        refine hK.out _ _ ?_ (fun hHeldX => ?_)
        · first | exact two_S XY.out M4.out.low | exact two_S XY.out M3.out.low | exact two_S XY.out M2.out.low | exact two_S XY.out M1.out.low | exact two_S XY.out M0.out
        clear hK K hHeld
        rename _ => hHeld
        try simp only [Act.put, List.setIfInBounds_toArray, List.set_cons_zero, List.set_cons_succ]
        refine wpAnyH_ready (rs := [18]) (by kernel_rfl) (by simp) ?_
        refine AllReadyH.cons (o := ⟨none, _, _, _, _, _⟩) rfl (fun K hK => ?_) AllReadyH.nil
        refine step_store_mid rfl 42 (.tmp 9) (.tmp 32) rfl (wA.heap.size + 1) 0 (callV x).toArray rfl rfl (blk_there M2.out.bb 0 15 (by decide)) (by kernel_rfl) (callA_one x) ?_
        obtain ⟨W3, hW3⟩ : ∃ W3, W2.setCells (wA.heap.size + 1) 0 (callV x) = W3 := ⟨_, rfl⟩
        rw [show (callV x).toArray.toList = callV x from rfl, hW3]
        have M3 := Lib.hid (M2.out.setB hW3)
        clear hW3
        refine hK.out _ _ ?_ (fun hHeldX => ?_)
        · first | exact two_S XY.out M4.out.low | exact two_S XY.out M3.out.low | exact two_S XY.out M2.out.low | exact two_S XY.out M1.out.low | exact two_S XY.out M0.out
        clear hK K hHeld
        rename _ => hHeld
        simp only [Act.put]
        refine wpAnyH_ready (rs := [19]) (by kernel_rfl) (by simp) ?_
        refine AllReadyH.cons (o := ⟨none, _, _, _, _, _⟩) rfl (fun K hK => ?_) AllReadyH.nil
        refine step_store_mid rfl 42 (.tmp 10) (.tmp 40) rfl (wA.heap.size) 0 (callV y).toArray rfl rfl (blk_there M3.out.ba 0 15 (by decide)) (by kernel_rfl) (callA_one y) ?_
        obtain ⟨W4, hW4⟩ : ∃ W4, W3.setCells (wA.heap.size) 0 (callV y) = W4 := ⟨_, rfl⟩
        rw [show (callV y).toArray.toList = callV y from rfl, hW4]
        have M4 := Lib.hid (M3.out.setA hW4)
        clear hW4
        refine hK.out _ _ ?_ (fun hHeldX => ?_)
        · first | exact two_S XY.out M4.out.low | exact two_S XY.out M3.out.low | exact two_S XY.out M2.out.low | exact two_S XY.out M1.out.low | exact two_S XY.out M0.out
        clear hK K hHeld
        rename _ => hHeld
        simp only [Act.put]
        refine wpAnyH_done (by kernel_rfl) ?_ _
        refine NoPanic.normal ?_
        go_wp2_with fail
        go_meet
        case rel => exact ⟨wA.heap.size + 1, wA.heap.size, rfl, rfl, Lib.hid M4.out.bb, Lib.hid M4.out.ba, Lib.hid (below_step hbA M4.out.low)⟩
    case rest =>
      obtain ⟨p9, p10, rfl, rfl, BX, BY, LO⟩ := hcut
      have BX : Hid (Blk 42 wc.drew p9 (callV x)) := Lib.hid BX.out
      have BY : Hid (Blk 42 wc.drew p10 (callV y)) := Lib.hid BY.out
      go_wp2_with fail
      refine wp_region_noPanic ?_
      refine wp_region_held_drew (S := (fun w' => w'.rangeAt p9 0 (callV x) ∧ w'.rangeAt p10 0 (callV y) ∧ w'.cell? ⟨p9, 14, none⟩ = some (numV x.to) ∧ w'.cell? ⟨p10, 13, none⟩ = some (numV y.fr))) (by kernel_rfl) ?_ (fun hHeld => ?_)
      · first | exact seven_S (BX.out.below G6.out BX.out.lt) (BY.out.below G6.out BY.out.lt) | exact seven_S BX.out BY.out
      refine wpAnyH_take (i := 0) (oi := ⟨some 41, _, _, _, _, _⟩) (v := callA x) rfl (by kernel_rfl) (by kernel_rfl) (by kernel_rfl) (fun _ _ _ h => h) (yieldsIf_load_mid (by rfl) 42 _ rfl p9 0 rfl (callV x) _ (fun w h => h.1) Try.underlying42 rfl (by kernel_rfl)) (by assumption) ?_
      try simp only [Act.put, List.setIfInBounds_toArray, List.set_cons_zero, List.set_cons_succ]
      refine wpAnyH_take (i := 1) (oi := ⟨some 42, _, _, _, _, _⟩) (v := callA y) rfl (by kernel_rfl) (by kernel_rfl) (by kernel_rfl) (fun _ _ _ h => h) (yieldsIf_load_mid (by rfl) 42 _ rfl p10 0 rfl (callV y) _ (fun w h => h.2.1) Try.underlying42 rfl (by kernel_rfl)) (by assumption) ?_
      try simp only [Act.put, List.setIfInBounds_toArray, List.set_cons_zero, List.set_cons_succ]
      refine wpAnyH_take (i := 3) (oi := ⟨some 44, _, _, _, _, _⟩) (v := ?_) rfl (by kernel_rfl) (by kernel_rfl) (by kernel_rfl) (fun _ _ _ h => h) (Or.inl ⟨by rfl, ?_⟩) (by assumption) ?_
      rotate_left
      · (intro w hSw; (try dsimp only at hSw); go_simp; try with_reducible rfl)
      try simp only [Act.put, List.setIfInBounds_toArray, List.set_cons_zero, List.set_cons_succ]
      refine wpAnyH_take (i := 4) (oi := ⟨some 45, _, _, _, _, _⟩) (v := ?_) rfl (by kernel_rfl) (by kernel_rfl) (by kernel_rfl) (fun _ _ _ h => h) (Or.inl ⟨by rfl, ?_⟩) (by assumption) ?_
      rotate_left
      · (intro w hSw; (try dsimp only at hSw); go_simp; try with_reducible rfl)
      try simp only [Act.put, List.setIfInBounds_toArray, List.set_cons_zero, List.set_cons_succ]
      refine wpAnyH_take (i := 5) (oi := ⟨some 46, _, _, _, _, _⟩) (v := ?_) rfl (by kernel_rfl) (by kernel_rfl) (by kernel_rfl) (fun _ _ _ h => h) (Or.inl ⟨by rfl, ?_⟩) (by assumption) ?_
      rotate_left
      · (intro w hSw; (try dsimp only at hSw); go_simp; try with_reducible rfl)
      try simp only [Act.put, List.setIfInBounds_toArray, List.set_cons_zero, List.set_cons_succ]
      refine wpAnyH_take (i := 6) (oi := ⟨some 47, _, _, _, _, _⟩) (v := ?_) rfl (by kernel_rfl) (by kernel_rfl) (by kernel_rfl) (fun _ _ _ h => h) (Or.inl ⟨by rfl, ?_⟩) (by assumption) ?_
      rotate_left
      · (intro w hSw; (try dsimp only at hSw); go_simp; try with_reducible rfl)
      try simp only [Act.put, List.setIfInBounds_toArray, List.set_cons_zero, List.set_cons_succ]
      refine wpAnyH_take (i := 7) (oi := ⟨some 48, _, _, _, _, _⟩) (v := ?_) rfl (by kernel_rfl) (by kernel_rfl) (by kernel_rfl) (fun _ _ _ h => h) (Or.inl ⟨by rfl, ?_⟩) (by assumption) ?_
      rotate_left
      · (intro w hSw; (try dsimp only at hSw); go_simp; try with_reducible rfl)
      try simp only [Act.put, List.setIfInBounds_toArray, List.set_cons_zero, List.set_cons_succ]
      refine wpAnyH_ready (rs := [2]) (by kernel_rfl) (by simp) ?_
      refine AllReadyH.cons (o := ⟨some 43, _, _, _, _, _⟩) rfl (fun K hK => ?_) AllReadyH.nil
      go_simp
      refine (hist_Ahead_b x y _).mono ?_
      rintro e w6 ⟨rfl, hb6⟩
      have G6 := Lib.hid hb6
      clear hb6
      go_wp2_with fail
      refine hK.out _ _ ?_ (fun hHeldX => ?_)
      · first | exact seven_S (BX.out.below G6.out BX.out.lt) (BY.out.below G6.out BY.out.lt) | exact seven_S BX.out BY.out
      clear hK K hHeld
      rename _ => hHeld
      try simp only [Act.put, List.setIfInBounds_toArray, List.set_cons_zero, List.set_cons_succ]
      refine wpAnyH_take (i := 8) (oi := ⟨some 49, _, _, _, _, _⟩) (v := ?_) rfl (by kernel_rfl) (by kernel_rfl) (by kernel_rfl) (fun _ _ _ h => h) (Or.inl ⟨by rfl, ?_⟩) (by assumption) ?_
      rotate_left
      · (intro w hSw; (try dsimp only at hSw); go_simp; try with_reducible rfl)
      try simp only [Act.put, List.setIfInBounds_toArray, List.set_cons_zero, List.set_cons_succ]
      refine wpAnyH_done (by kernel_rfl) ?_ _
      refine NoPanic.normal ?_
      have hb := Lib.hid (below_step (below_draws LO.out 1) G6.out)
      clear G6 BX BY LO
      generalize w6 = wB at hb ⊢
      go_upto_region 9 with fail
      go_cut [11] from 50 to 52 (fun s wx => ∃ g cp : Nat, s = .slice (some ⟨g, 0, none⟩) 0 cp ∧ Hid (CopyIs w wB wx g cp []))
      case first =>
        obtain ⟨i1, hi1, hz0, hz1, hz2⟩ := info_parts infoBool
        have hown0 : (wB.alloc (.cells #[] 4)).ownsRow wB.heap.size 4 1 (.slice (some ⟨wB.heap.size, 0, none⟩) 0 0) 0 [] := ⟨rfl, .inr ⟨wB.heap.size, 0, #[], rfl, Nat.le_refl _, Blk.new (l := []), Nat.le_refl _, Nat.zero_le _, rfl, rfl⟩⟩
        have bb : Below wB.heap.size wB (wB.alloc (.cells #[] 4)) := (Below.refl _ _).alloc (Nat.le_refl _) _
        have K : Hid (CopyIs w wB (wB.alloc (.cells #[] 4)) wB.heap.size 0 []) := Lib.hid (CopyIs.mk hown0 (Nat.le_refl _) (below_step hb.out bb))
        go_wp2_with (at_builtin; with_reducible show wpList _ _ _ (⟨some 52, _, _, _, _, _⟩ :: _) _ _; go_loud (refine wpList_append_own_none rfl (.tmp 50) (.tmp 51) 47 rfl wB.heap.size 4 i1 1 Try.underlying47 hi1 (.slice (some ⟨wB.heap.size, 0, none⟩) 0 0) 0 [] rfl hown0 rfl ?_))
        go_meet
        case rel => exact ⟨wB.heap.size, 0, rfl, K⟩
      case rest =>
        obtain ⟨g, cp, rfl, CI⟩ := hcut
        have HN : Hid ((([] : List Bool).take L.length).length = 0) := Lib.hid (by simp)
        have CL := Lib.hid (show CallsIn wc (.slice (some ⟨b, off, none⟩) L.length cap) L from ⟨(some ⟨b, off, none⟩), cap, rfl, H.out.below CI.out.low⟩)
        have DL := Lib.hid (listIn_own CI.out.row L.length)
        have LO := Lib.hid CI.out.low
        have hlen := Lib.hid (refMin_len L (([] : List Bool).take L.length) L.length)
        clear CI
        go_wp2_with fail
        refine (hist_Right CL.out HW.out (by omega)).mono ?_
        rw [right_same L (by omega)]
        rintro e w1 ⟨rfl, hb1⟩
        have CL1 := Lib.hid (CL.out.below hb1)
        have DL1 := Lib.hid (DL.out.below hb1)
        have LO1 := Lib.hid (below_step LO.out hb1)
        clear CL DL LO hb1
        go_wp2_with fail
        refine (ref_Right CL1.out (by omega)).mono ?_
        rintro e w2 ⟨rfl, n2, rfl⟩
        have hb2 : Below w1.heap.size w1 (w1.drewN n2) := below_draws (Below.refl _ _) n2
        have CL2 := Lib.hid (CL1.out.below hb2)
        have DL2 := Lib.hid (DL1.out.below hb2)
        have LO2 := Lib.hid (below_step LO1.out hb2)
        clear CL1 DL1 LO1 hb2
        generalize w1.drewN n2 = w2 at CL2 DL2 LO2 ⊢
        have hee : (rightR [] L == rightR [] L) = true := by simp
        generalize rightR [] L = rr at hee ⊢
        go_wp2_with fail
        refine (hist_Minimal_n CL2.out (by omega) DL2.out HN.out).mono ?_
        rintro e w3 ⟨r3, rfl, hn3, hb3⟩
        have CL3 := Lib.hid (CL2.out.below hb3)
        have DL3 := Lib.hid (DL2.out.below hb3)
        have LO3 := Lib.hid (below_step LO2.out hb3)
        have N3 := Lib.hid hn3
        clear CL2 DL2 LO2 hb3 hn3
        go_wp2_with fail
        refine (ref_Minimal_n CL3.out (by omega) DL3.out (by rw [List.length_take]; exact Nat.min_le_left _ _) HN.out).mono ?_
        rintro e w4 ⟨r4, rfl, hn4, hb4⟩
        have N4 := Lib.hid (And.intro (N3.out.below hb4) hn4)
        have LO4 := Lib.hid (below_step LO3.out hb4)
        clear CL3 DL3 LO3 N3 hb4 hn4
        go_wp2_with fail
        refine (ints_refl N4.out.1 N4.out.2 (by have := hlen.out; omega)).mono ?_
        rintro e w5 ⟨rfl, hb5⟩
        go_wp2
        go_ret
        exact ⟨rfl, below_step LO4.out hb5⟩
  · have hb := Lib.hid hbA
    generalize wA = wB at hb ⊢
    go_upto_region 9 with fail
    go_cut [11] from 50 to 52 (fun s wx => ∃ g cp : Nat, s = .slice (some ⟨g, 0, none⟩) 0 cp ∧ Hid (CopyIs w wB wx g cp []))
    case first =>
      obtain ⟨i1, hi1, hz0, hz1, hz2⟩ := info_parts infoBool
      have hown0 : (wB.alloc (.cells #[] 4)).ownsRow wB.heap.size 4 1 (.slice (some ⟨wB.heap.size, 0, none⟩) 0 0) 0 [] := ⟨rfl, .inr ⟨wB.heap.size, 0, #[], rfl, Nat.le_refl _, Blk.new (l := []), Nat.le_refl _, Nat.zero_le _, rfl, rfl⟩⟩
      have bb : Below wB.heap.size wB (wB.alloc (.cells #[] 4)) := (Below.refl _ _).alloc (Nat.le_refl _) _
      have K : Hid (CopyIs w wB (wB.alloc (.cells #[] 4)) wB.heap.size 0 []) := Lib.hid (CopyIs.mk hown0 (Nat.le_refl _) (below_step hb.out bb))
      go_wp2_with (at_builtin; with_reducible show wpList _ _ _ (⟨some 52, _, _, _, _, _⟩ :: _) _ _; go_loud (refine wpList_append_own_none rfl (.tmp 50) (.tmp 51) 47 rfl wB.heap.size 4 i1 1 Try.underlying47 hi1 (.slice (some ⟨wB.heap.size, 0, none⟩) 0 0) 0 [] rfl hown0 rfl ?_))
      go_meet
      case rel => exact ⟨wB.heap.size, 0, rfl, K⟩
    case rest =>
      obtain ⟨g, cp, rfl, CI⟩ := hcut
      have HN : Hid ((([] : List Bool).take L.length).length = 0) := Lib.hid (by simp)
      have CL := Lib.hid (show CallsIn wc (.slice a L.length cap) L from ⟨a, cap, rfl, H.out.below CI.out.low⟩)
      have DL := Lib.hid (listIn_own CI.out.row L.length)
      have LO := Lib.hid CI.out.low
      have hlen := Lib.hid (refMin_len L (([] : List Bool).take L.length) L.length)
      clear CI
      go_wp2_with fail
      refine (hist_Right CL.out HW.out (by omega)).mono ?_
      rw [right_same L (by omega)]
      rintro e w1 ⟨rfl, hb1⟩
      have CL1 := Lib.hid (CL.out.below hb1)
      have DL1 := Lib.hid (DL.out.below hb1)
      have LO1 := Lib.hid (below_step LO.out hb1)
      clear CL DL LO hb1
      go_wp2_with fail
      refine (ref_Right CL1.out (by omega)).mono ?_
      rintro e w2 ⟨rfl, n2, rfl⟩
      have hb2 : Below w1.heap.size w1 (w1.drewN n2) := below_draws (Below.refl _ _) n2
      have CL2 := Lib.hid (CL1.out.below hb2)
      have DL2 := Lib.hid (DL1.out.below hb2)
      have LO2 := Lib.hid (below_step LO1.out hb2)
      clear CL1 DL1 LO1 hb2
      generalize w1.drewN n2 = w2 at CL2 DL2 LO2 ⊢
      have hee : (rightR [] L == rightR [] L) = true := by simp
      generalize rightR [] L = rr at hee ⊢
      go_wp2_with fail
      refine (hist_Minimal_n CL2.out (by omega) DL2.out HN.out).mono ?_
      rintro e w3 ⟨r3, rfl, hn3, hb3⟩
      have CL3 := Lib.hid (CL2.out.below hb3)
      have DL3 := Lib.hid (DL2.out.below hb3)
      have LO3 := Lib.hid (below_step LO2.out hb3)
      have N3 := Lib.hid hn3
      clear CL2 DL2 LO2 hb3 hn3
      go_wp2_with fail
      refine (ref_Minimal_n CL3.out (by omega) DL3.out (by rw [List.length_take]; exact Nat.min_le_left _ _) HN.out).mono ?_
      rintro e w4 ⟨r4, rfl, hn4, hb4⟩
      have N4 := Lib.hid (And.intro (N3.out.below hb4) hn4)
      have LO4 := Lib.hid (below_step LO3.out hb4)
      clear CL3 DL3 LO3 N3 hb4 hn4
      go_wp2_with fail
      refine (ints_refl N4.out.1 N4.out.2 (by have := hlen.out; omega)).mono ?_
      rintro e w5 ⟨rfl, hb5⟩
      go_wp2
      go_ret
      exact ⟨rfl, below_step LO4.out hb5⟩

end Go.Proofs.Ytjkabbabhfipbaa
