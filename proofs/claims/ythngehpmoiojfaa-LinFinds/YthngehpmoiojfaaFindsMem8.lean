/- LinFinds: what it keeps in memory while it makes its calls. · LinFinds: its calls, as they are put in another order. -/
import Derived.Test.YthngehpmoiojfaaFindsGen8
import Derived.Test.YthngehpmoiojfaaRefMF8
import Derived.Test.YthngehpmoiojfaaAwake8
import Derived.Test.YthngehpmoiojfaaStep
namespace Go.Proofs.Ythngehpmoiojfaa
open Go.RowKit

theorem blk_diff {t t' : TypeId} {w : World} {B B' : Nat} {l l' : List Value} (h : Blk t w B l) (h' : Blk t' w B' l') (hne : t ≠ t') : B ≠ B' := by
  rintro rfl
  have h1 : w.heap[B]? = _ := h
  rw [show w.heap[B]? = _ from h'] at h1
  injection h1 with h1
  injection h1 with _ h1
  exact hne h1.symm
/-- Behind k calls: the state's box, the calls. -/
structure F1 (w wr : World) (S : Nat) (lv : Value) (k : Nat) (s : StZ) (L0 : List CallZ) : Prop where
  st : Blk 40 wr S (stV s)
  own : wr.ownsRow w.heap.size 34 15 lv L0.length (callsV L0)
  below : Below w.heap.size w wr
  low : w.heap.size ≤ S
  fin : Fin8 k s L0
/-- With a box for the answer; s' in the state's box. -/
structure F2 (w wr : World) (S A : Nat) (lv : Value) (k : Nat) (s s' : StZ) (a : AnZ) (L0 : List CallZ) : Prop where
  st : Blk 40 wr S (stV s')
  an : Blk 32 wr A (anV a)
  own : wr.ownsRow w.heap.size 34 15 lv L0.length (callsV L0)
  below : Below w.heap.size w wr
  low : w.heap.size ≤ S
  lowA : w.heap.size ≤ A
  fin : Fin8 k s L0
section
variable {w wr w' : World} {S A k : Nat} {lv : Value} {s s' s'' : StZ} {a a' : AnZ} {L0 : List CallZ}
theorem F1.keep (h : F1 w wr S lv k s L0) (hb : Below wr.heap.size wr w') : F1 w w' S lv k s L0 :=
  ⟨h.st.below hb h.st.lt, own_only h.own (Only.of_below hb (fun _ => False)) (fun _ _ => id), h.below.trans (hb.mono h.below.size), h.low, h.fin⟩
theorem F1.box (h : F1 w wr S lv k s L0) : F2 w (wr.alloc (.cells (anV an0).toArray 32)) S wr.heap.size lv k s s an0 L0 :=
  ⟨h.st.alloc _, Blk.new, h.own.alloc _, h.below.alloc h.below.size _, h.low, h.below.size, h.fin⟩
theorem F2.keep (h : F2 w wr S A lv k s s' a L0) (hb : Below wr.heap.size wr w') : F2 w w' S A lv k s s' a L0 :=
  ⟨h.st.below hb h.st.lt, h.an.below hb h.an.lt, own_only h.own (Only.of_below hb (fun _ => False)) (fun _ _ => id), h.below.trans (hb.mono h.below.size), h.low, h.lowA, h.fin⟩
theorem F2.putS (h : F2 w wr S A lv k s s' a L0) (e : wr.setCells S 0 (stV s'').toArray.toList = w') : F2 w w' S A lv k s s'' a L0 := by
  obtain ⟨hb, ho⟩ := blk_wrote (l' := stV s'') (by simp [stV]) h.st e
  exact ⟨hb, h.an.only ho (blk_diff h.an h.st (by decide)), own_only h.own ho (fun g hg e => blk_apart h.st h.own hg (by decide) e.symm), Only.below_step h.below.size h.below ho (fun i hi e => by have := h.low; omega), h.low, h.lowA, h.fin⟩
theorem F2.putA (h : F2 w wr S A lv k s s' a L0) (e : wr.setCells A 0 (anV a').toArray.toList = w') : F2 w w' S A lv k s s' a' L0 := by
  obtain ⟨hb, ho⟩ := blk_wrote (l' := anV a') (by simp [anV]) h.an e
  exact ⟨h.st.only ho (blk_diff h.st h.an (by decide)), hb, own_only h.own ho (fun g hg e => blk_apart h.an h.own hg (by decide) e.symm), Only.below_step h.below.size h.below ho (fun i hi e => by have := h.lowA; omega), h.low, h.lowA, h.fin⟩
/-- One more call. -/
theorem F2.add {w5 : World} {ob : Obj} {g' cap' : Nat} {c : CallZ} (h : F2 w wr S A lv k s s' a L0) (hgrow : (wr.alloc ob).grownBy w5 lv.ownBlock)
    (hown : w5.ownsRow w.heap.size 34 15 (.slice (some ⟨g', 0, none⟩) (L0.length + 1) cap') (L0.length + 1) (callsV L0 ++ callV c)) (hf : Fin8 (k + 1) s' (L0 ++ [c])) : F1 w w5 S (.slice (some ⟨g', 0, none⟩) (L0.length + 1) cap') (k + 1) s' (L0 ++ [c]) := by
  have ho : Only (fun j => lv.ownBlock = some j) wr w5 := ((Only.refl _ wr).alloc ob).trans (grown_only hgrow)
  refine ⟨h.st.only ho (fun e => blk_apart h.st h.own e (by decide) rfl), ?_, Only.below_step h.below.size h.below ho (fun i hi e => by have := (h.own.lt i e).1; omega), h.low, hf⟩
  rw [List.length_append, show callsV (L0 ++ [c]) = callsV L0 ++ callV c by unfold callsV; rw [List.flatMap_append]; simp]
  exact hown
theorem F2.rest {w5 : World} {ob : Obj} (h : F2 w wr S A lv k s s' a L0) (hgrow : (wr.alloc ob).grownBy w5 lv.ownBlock) : Blk 32 w5 A (anV a) ∧ Below w.heap.size w w5 := by
  have ho : Only (fun j => lv.ownBlock = some j) wr w5 := ((Only.refl _ wr).alloc ob).trans (grown_only hgrow)
  exact ⟨h.an.only ho (fun e => blk_apart h.an h.own e (by decide) rfl), Only.below_step h.below.size h.below ho (fun i hi e => by have := (h.own.lt i e).1; omega)⟩
end

end Go.Proofs.Ythngehpmoiojfaa

namespace Go.Proofs.Ythngehpmoiojfaa
open Go.RowKit

theorem setsL_len : ∀ (vs l : List Value) (o : Nat), (setsL l o vs).length = l.length
  | [], _, _ => rfl
  | v :: r, l, o => by
    show (setsL (l.set o v) (o + 1) r).length = _
    rw [setsL_len r, List.length_set]
theorem setsL_out : ∀ (vs l : List Value) (o m : Nat), (m < o ∨ o + vs.length ≤ m) → (setsL l o vs)[m]? = l[m]?
  | [], _, _, _, _ => rfl
  | v :: r, l, o, m, h => by
    show (setsL (l.set o v) (o + 1) r)[m]? = _
    rw [List.length_cons] at h
    rw [setsL_out r _ _ _ (by omega), List.getElem?_set_ne (by omega)]
theorem setsL_in : ∀ (vs l : List Value) (o j : Nat) (u : Value), o + vs.length ≤ l.length → vs[j]? = some u → (setsL l o vs)[o + j]? = some u
  | [], _, _, _, _, _, h => by simp at h
  | v :: r, l, o, 0, u, hl, h => by
    simp at h
    subst h
    show (setsL (l.set o v) (o + 1) r)[o + 0]? = _
    rw [List.length_cons] at hl
    rw [setsL_out r _ _ _ (by omega), Nat.add_zero, List.getElem?_set_self (by omega)]
  | v :: r, l, o, j + 1, u, hl, h => by
    show (setsL (l.set o v) (o + 1) r)[o + (j + 1)]? = _
    rw [List.length_cons] at hl
    simp at h
    rw [show o + (j + 1) = o + 1 + j by omega]
    exact setsL_in r _ _ j u (by rw [List.length_set]; omega) h
theorem calls_set {L : List CallZ} {i : Nat} (hi : i < L.length) (c : CallZ) : setsL (callsV L) (i * 15) (callV c) = callsV (L.set i c) := by
  have hr : RecRow 15 callV (callsV L) L := recRow_flat callV_len L
  have hl : (callsV L).length = L.length * 15 := hr.len
  refine (hr.turn callV_len (i := i) (y := c) (l' := setsL (callsV L) (i * 15) (callV c)) ⟨setsL_len _ _ _, fun m hm => setsL_out _ _ _ _ ?_⟩ (fun j v hv => setsL_in _ _ _ _ _ ?_ hv)).flat (by decide) callV_len
  · rw [callV_len]; omega
  · rw [callV_len]; omega
theorem listed_mem {L L0 : List CallZ} {r : List Int} (h : Listed L L0 r) {y : CallZ} (hy : y ∈ L) : y ∈ L0 := by
  obtain ⟨j, hj, rfl⟩ := List.getElem_of_mem hy
  rw [← h.mp]
  exact List.mem_map.2 ⟨(j : Int), h.all j hj, atZ_nat hj⟩
theorem Fin8.to {k : Nat} {s : StZ} {L : List CallZ} (h : Fin8 k s L) : ∀ y ∈ L, minI ≤ y.to := fun y hy => by
  obtain ⟨i, hi, rfl⟩ := List.getElem_of_mem hy
  have := (h.at_ i _ (List.getElem?_eq_getElem hi)).2.1
  unfold minI
  omega
theorem cell_rng {w w' : World} {b o : Nat} {l : List Value} (h : w.rangeAt b o l) (hb : Below w.heap.size w w') : w'.rangeAt b o l := fun j v hv => by
  have h1 := h j v hv
  have hlt : b < w.heap.size := by
    by_cases hc : b < w.heap.size
    · exact hc
    · rw [World.cell?, Array.getElem?_eq_none (by simpa using hc)] at h1
      cases h1
  exact (hb.cell (p := ⟨b, o + j, none⟩) hlt).trans h1
/-- The row, its calls in some order. -/
structure F4 (w wr : World) (lv : Value) (L0 Lc : List CallZ) : Prop where
  own : wr.ownsRow w.heap.size 34 15 lv Lc.length (callsV Lc)
  below : Below w.heap.size w wr
  len : Lc.length = L0.length
  ls : ∃ r, Listed Lc L0 r
/-- With two boxes. -/
structure F5 (w wr : World) (lv : Value) (G Bx By : Nat) (L0 Lc : List CallZ) (x y : CallZ) : Prop where
  f4 : F4 w wr lv L0 Lc
  bx : Blk 34 wr Bx (callV x)
  bY : Blk 34 wr By (callV y)
  gv : lv.ownBlock = some G
  nx : G ≠ Bx
  ny : G ≠ By
section
variable {w wr w' : World} {lv : Value} {L0 Lc : List CallZ} {G Bx By : Nat} {x y : CallZ}
theorem F4.keep (h : F4 w wr lv L0 Lc) (hb : Below wr.heap.size wr w') : F4 w w' lv L0 Lc :=
  ⟨own_only h.own (Only.of_below hb (fun _ => False)) (fun _ _ => id), h.below.trans (hb.mono h.below.size), h.len, h.ls⟩
theorem F4.only {S : Nat → Prop} (h : F4 w wr lv L0 Lc) (ho : Only S wr w') (hS : ∀ k, S k → w.heap.size ≤ k ∧ lv.ownBlock ≠ some k) : F4 w w' lv L0 Lc :=
  ⟨own_only h.own ho (fun k hk e => (hS k e).2 hk), Only.below_step h.below.size h.below ho (fun i hi e => by have := (hS i e).1; omega), h.len, h.ls⟩
/-- The row as a block. -/
theorem F4.at (h : F4 w wr lv L0 Lc) {i : Nat} (hi : i < Lc.length) : ∃ G cap, lv = .slice (some ⟨G, 0, none⟩) Lc.length cap ∧ w.heap.size ≤ G ∧ G < wr.heap.size ∧ (∀ m (hm : m < Lc.length), wr.rangeAt G (m * 15) (callV Lc[m])) ∧ (∀ m, m < Lc.length → wr.there G (m * 15) 15) := by
  have hg : ∃ g, lv.ownBlock = some g := by
    rcases h.own.2 with ⟨_, e⟩ | ⟨g, cap, cur, e, _⟩
    · omega
    · exact ⟨g, by rw [e]; rfl⟩
  obtain ⟨g, hg⟩ := hg
  obtain ⟨l, cap, e, hb0, hb, ht, hle⟩ := own_heap h.own hg
  refine ⟨g, cap, e, hb0, hb.lt, fun m hm j v hv => ?_, fun m hm => blk_lies hb (by omega)⟩
  have h1 := flat_at callV_len (List.getElem?_eq_getElem hm) hv
  rw [show Lc.flatMap callV = callsV Lc from rfl, ← ht, List.getElem?_take] at h1
  split at h1
  · exact hb.at h1
  · cases h1
/-- Two calls change places. -/
theorem F4.swap {G : Nat} (h : F4 w wr lv L0 Lc) (hg : lv.ownBlock = some G) {i : Nat} (hi : i + 1 < Lc.length) : F4 w ((wr.setCells G (i * 15) (callV Lc[i + 1])).setCells G ((i + 1) * 15) (callV (Lc[i]'(by omega)))) lv L0 ((Lc.set i Lc[i + 1]).set (i + 1) (Lc[i]'(by omega))) := by
  obtain ⟨r, hr⟩ := h.ls
  have h1 := own_setCells hg (callV Lc[i + 1]) (i * 15) wr _ h.own
  rw [calls_set (by omega)] at h1
  have h2 := own_setCells hg (callV (Lc[i]'(by omega))) ((i + 1) * 15) _ _ h1
  rw [calls_set (by rw [List.length_set]; omega)] at h2
  have ho : ∀ (vs : List Value) (o : Nat) (W : World), Only (· = G) W (W.setCells G o vs) := fun vs => by
    induction vs with
    | nil => exact fun o W => Only.refl _ _
    | cons v vs ih => exact fun o W => (only_at W G o v).trans (ih _ _)
  refine ⟨by simpa using h2, Only.below_step h.below.size h.below ((ho _ _ _).trans (ho _ _ _)) (fun j hj e => by have := (h.own.lt G hg).1; omega), by simpa using h.len, _, hr.swap (a := i) (b := i + 1) (by omega) hi (by omega)⟩
end

/-- Two boxes, made. -/
structure BX (wr w' : World) (Bx By : Nat) (zx zy : List Value) : Prop where
  bx : Blk 34 w' Bx zx
  bY : Blk 34 w' By zy
  below : Below wr.heap.size wr w'
  ne : Bx ≠ By
  lx : wr.heap.size ≤ Bx
  ly : wr.heap.size ≤ By
theorem two_boxes {wr w0 wB : World} (h0 : Below wr.heap.size wr w0) (hs : w0.heap.size = wr.heap.size) (e : (w0.alloc (.cells (callV default).toArray 34)).alloc (.cells (callV default).toArray 34) = wB) :
    BX wr wB wr.heap.size (wr.heap.size + 1) (callV default) (callV default) ∧ BX wr wB (wr.heap.size + 1) wr.heap.size (callV default) (callV default) := by
  have h1 : Blk 34 wB wr.heap.size (callV default) := by
    rw [← e, ← hs]
    exact Blk.new.alloc _
  have h2 : Blk 34 wB (wr.heap.size + 1) (callV default) := by
    rw [← e, ← hs]
    have := Blk.new (W := w0.alloc (.cells (callV default).toArray 34)) (t := 34) (l := callV default)
    rwa [World.size_alloc] at this
  have hb : Below wr.heap.size wr wB := by
    rw [← e]
    exact (h0.alloc (by omega) _).alloc (by simp; omega) _
  exact ⟨⟨h1, h2, hb, by omega, by omega, by omega⟩, ⟨h2, h1, hb, by omega, by omega, by omega⟩⟩
section
variable {wr w' w'' : World} {Bx By : Nat} {zx zy : List Value}
theorem BX.putX (h : BX wr w' Bx By zx zy) (hz : zx.length = 15) {y : CallZ} (e : w'.setCells Bx 0 (callV y).toArray.toList = w'') : BX wr w'' Bx By (callV y) zy := by
  obtain ⟨hb, ho⟩ := blk_wrote (l' := callV y) (by rw [hz, callV_len]) h.bx e
  exact ⟨hb, h.bY.only ho (fun e => h.ne e.symm), Only.below_step h.below.size h.below ho (fun i hi e => by have := h.lx; omega), h.ne, h.lx, h.ly⟩
theorem BX.putY (h : BX wr w' Bx By zx zy) (hz : zy.length = 15) {y : CallZ} (e : w'.setCells By 0 (callV y).toArray.toList = w'') : BX wr w'' Bx By zx (callV y) := by
  obtain ⟨hb, ho⟩ := blk_wrote (l' := callV y) (by rw [hz, callV_len]) h.bY e
  exact ⟨h.bx.only ho h.ne, hb, Only.below_step h.below.size h.below ho (fun i hi e => by have := h.ly; omega), h.ne, h.lx, h.ly⟩
theorem BX.F5 {w : World} {lv : Value} {L0 Lc : List CallZ} {G : Nat} {x y : CallZ} (h : BX wr w' Bx By (callV x) (callV y)) (hf : F4 w wr lv L0 Lc) (hg : lv.ownBlock = some G) : F5 w w' lv G Bx By L0 Lc x y :=
  ⟨hf.keep h.below, h.bx, h.bY, hg, fun e => by have := (hf.own.lt G hg).2; have := h.lx; omega, fun e => by have := (hf.own.lt G hg).2; have := h.ly; omega⟩
end
theorem F4.thereAt {w wr : World} {lv : Value} {L0 Lc : List CallZ} {G i : Nat} (h : F4 w wr lv L0 Lc) (hg : lv.ownBlock = some G) (hi : i < Lc.length) : wr.there G (i * 15) 15 := by
  obtain ⟨l, cap, _, _, hb, _, hle⟩ := own_heap h.own hg
  exact blk_lies hb (by omega)
theorem only_cells (G : Nat) : ∀ (vs : List Value) (o : Nat) (W : World), Only (· = G) W (W.setCells G o vs)
  | [], _, W => Only.refl _ W
  | v :: vs, o, W => (only_at W G o v).trans (only_cells G vs _ _)
section
variable {w wr w' w8 w9 : World} {lv : Value} {L0 Lc : List CallZ} {G Bx By j : Nat} {x y : CallZ}
theorem F5.keep (h : F5 w wr lv G Bx By L0 Lc x y) (hb : Below wr.heap.size wr w') : F5 w w' lv G Bx By L0 Lc x y :=
  ⟨h.f4.keep hb, h.bx.below hb h.bx.lt, h.bY.below hb h.bY.lt, h.gv, h.nx, h.ny⟩
/-- Behind the first store. -/
theorem F5.half (h : F5 w wr lv G Bx By L0 Lc x y) (hj : j + 1 < Lc.length) (e : wr.setCells G (j * 15) (callV y).toArray.toList = w8) : w8.there G ((j + 1) * 15) 15 ∧ Blk 34 w8 Bx (callV x) ∧ Blk 34 w8 By (callV y) := by
  have ho : Only (· = G) wr w8 := by rw [← e]; exact only_cells G _ _ _
  have h1 := own_setCells h.gv (callV y) (j * 15) wr _ h.f4.own
  obtain ⟨l, cap, _, _, hb, _, hle⟩ := own_heap h1 h.gv
  refine ⟨?_, h.bx.only ho (fun e => h.nx e.symm), h.bY.only ho (fun e => h.ny e.symm)⟩
  have hb' : Blk 34 w8 G l := by rw [← e]; exact hb
  exact blk_lies hb' (by omega)
/-- Behind both. -/
theorem F5.whole (h : F5 w wr lv G Bx By L0 Lc x y) (hx : Lc[j]? = some x) (hy : Lc[j + 1]? = some y) (e : wr.setCells G (j * 15) (callV y).toArray.toList = w8) (e' : w8.setCells G ((j + 1) * 15) (callV x).toArray.toList = w9) :
    F4 w w9 lv L0 ((Lc.set j y).set (j + 1) x) ∧ Blk 34 w9 Bx (callV x) ∧ Blk 34 w9 By (callV y) := by
  obtain ⟨hj, ex⟩ := List.getElem?_eq_some_iff.1 hx
  obtain ⟨hj1, ey⟩ := List.getElem?_eq_some_iff.1 hy
  obtain ⟨_, b1, b2⟩ := h.half hj1 e
  have ho : Only (· = G) w8 w9 := by rw [← e']; exact only_cells G _ _ _
  refine ⟨?_, b1.only ho (fun e => h.nx e.symm), b2.only ho (fun e => h.ny e.symm)⟩
  have := h.f4.swap h.gv hj1
  rw [ex, ey] at this
  rw [← e', ← e]
  exact this
end
theorem callV1_one (c : CallZ) : (callV c).toArray.all (·.oneCell') = true := by simp [callV, Value.oneCell']

end Go.Proofs.Ythngehpmoiojfaa
