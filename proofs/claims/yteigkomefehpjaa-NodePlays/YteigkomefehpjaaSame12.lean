/- Layer 12: the law's own 'same'. Made by tools/gen_same12.py. -/
import Derived.Test.YteigkomefehpjaaNodeB12
import Derived.Test.YteigkomefehpjaaAll3
import Derived.Deep.RegionHeld3
import Derived.Stop.RegionWithIn
import Derived.LaidEqlPtr
import Derived.Test.YteigkomefehpjaaHeldIn
namespace Go.Proofs.Yteigkomefehpjaa
open Go.RowKit Go.Shelf

attribute [local go_sem] Oper.semAt_some
theorem pre_snoc {α : Type} {pre E : List α} {x : α} (h : pre <+: E) (hx : E[pre.length]? = some x) : pre ++ [x] <+: E := by
  obtain ⟨t, rfl⟩ := h
  rw [List.getElem?_append_right (Nat.le_refl _), Nat.sub_self] at hx
  cases t with
  | nil => simp at hx
  | cons y t =>
    obtain rfl : y = x := by simpa using hx
    exact ⟨t, by simp⟩
theorem pre_at {α : Type} {pre E : List α} {x : α} (h : pre ++ [x] <+: E) : E[pre.length]? = some x := by
  obtain ⟨t, rfl⟩ := h
  simp
theorem kup_uniq {E : List Ent} (h : KUp E) {p q : Ent} (hp : p ∈ E) (hq : q ∈ E) (e : p.1 = q.1) : p = q := by
  obtain ⟨i, hi⟩ := List.mem_iff_getElem?.1 hp
  obtain ⟨j, hj⟩ := List.mem_iff_getElem?.1 hq
  obtain ⟨h1, rfl⟩ := List.getElem?_eq_some_iff.1 hi
  obtain ⟨h2, rfl⟩ := List.getElem?_eq_some_iff.1 hj
  rcases Nat.lt_trichotomy i j with hlt | rfl | hlt
  · exact absurd e (bl_ne (List.pairwise_iff_getElem.1 h i j h1 h2 hlt))
  · rfl
  · exact absurd e.symm (bl_ne (List.pairwise_iff_getElem.1 h j i h2 h1 hlt))
theorem getE_mem : ∀ {E : List Ent} {p : Ent}, KUp E → p ∈ E → getE p.1 E = some p.2
  | [], p, _, hp => by simp at hp
  | q :: r, p, h, hp => by
    by_cases e : q.1 = p.1
    · have := kup_uniq h (by simp : q ∈ q :: r) hp e
      subst this
      simp [getE]
    · rw [getE, if_neg e]
      rcases List.mem_cons.1 hp with rfl | hp
      · exact absurd rfl e
      · exact getE_mem (List.pairwise_cons.1 h).2 hp
theorem kup_toP {E : List Ent} (h : KUp E) (L : List NdR) : KUp (toP L E) := by
  unfold toP
  exact List.pairwise_map.2 (h.imp fun h => h)
theorem keeps_below {W W' : World} (h : Below W.heap.size W W') : KeepsOthers W W' := ⟨h.size, fun k _ hk _ => (h.block k (Array.getElem?_eq_some_iff.1 hk).1).trans hk⟩
/-- The answer's box is written to, both marks are taken. -/
theorem leaf2 {w W : World} {B D D2 : Nat} {u : Value} (hw : Below w.heap.size w W) (hB : w.heap.size ≤ B) (hD : w.heap.size ≤ D) (hDD : D < D2) (b0 : Blk 4 W B [u]) (K1 : W.heap[D]? = some (.deferred (some []))) (K2 : W.heap[D2]? = some (.deferred (some []))) (v : Value) :
    (W.setCell ⟨B, 0, none⟩ v).heap[D2]? = some (.deferred (some [])) ∧ ((W.setCell ⟨B, 0, none⟩ v).putObj D2 (.deferred none)).heap[D]? = some (.deferred (some [])) ∧
      (((W.setCell ⟨B, 0, none⟩ v).putObj D2 (.deferred none)).putObj D (.deferred none)).cell? ⟨B, 0, none⟩ = some v ∧ Below w.heap.size w (((W.setCell ⟨B, 0, none⟩ v).putObj D2 (.deferred none)).putObj D (.deferred none)) := by
  have hDl : D < W.heap.size := (Array.getElem?_eq_some_iff.1 K1).1
  have hDl2 : D2 < W.heap.size := (Array.getElem?_eq_some_iff.1 K2).1
  have k1 : (W.setCell ⟨B, 0, none⟩ v).heap[D]? = some (.deferred (some [])) := (KeepsOthers.setCell W ⟨B, 0, none⟩ v).same D _ K1 rfl
  have k2 : (W.setCell ⟨B, 0, none⟩ v).heap[D2]? = some (.deferred (some [])) := (KeepsOthers.setCell W ⟨B, 0, none⟩ v).same D2 _ K2 rfl
  have b1 := b0.set 0 v
  have b2 : (W.setCell ⟨B, 0, none⟩ v).cell? ⟨B, 0, none⟩ = some v := by have := b1.at (o := 0) rfl; exact this
  have h1 := hw.setCell (p := ⟨B, 0, none⟩) hB v
  have hs : (W.setCell ⟨B, 0, none⟩ v).heap.size = W.heap.size := by simp [World.setCell]
  have k3 : ((W.setCell ⟨B, 0, none⟩ v).putObj D2 (.deferred none)).heap[D]? = some (.deferred (some [])) := ((grownBy_putObj' (W.setCell ⟨B, 0, none⟩ v) D2 (.deferred none)).block D (by omega) (fun e => by cases e; omega)).trans k1
  have h2 := h1.grown (grownBy_putObj' _ D2 (.deferred none)) (by have := h1.size; omega) (fun k e => by cases e; omega)
  have h3 := h2.grown (grownBy_putObj' _ D (.deferred none)) (by have := h2.size; omega) (fun k e => by cases e; exact hD)
  have c2 := cell_kept b2 (grownBy_putObj' _ D2 (.deferred none)) (fun r e => by cases e; exact ⟨_, k2, rfl⟩)
  exact ⟨k2, k3, cell_kept c2 (grownBy_putObj' _ D (.deferred none)) (fun r e => by cases e; exact ⟨_, k3, rfl⟩), h3⟩
theorem neq_ptr (b : Nat) (W : World) : Sem.run Try.prog (binOp BinOp.neq 29 (.pointer (some ⟨b, 0, none⟩)) (.pointer (some ⟨b, 0, none⟩))) W = .ok (.bool false) W := by
  obtain ⟨j, hj⟩ := Option.isSome_iff_exists.1 (show (Try.prog.info? 56).isSome = true by kernel_rfl)
  have h : ∀ d : Nat, (Op.equalIn (d + 1) 29 (.pointer (some ⟨b, 0, none⟩)) (.pointer (some ⟨b, 0, none⟩))).run Try.prog W = .ok true W := fun d => by
    simp [Op.equalIn, run_underlying Try.underlying29, sizeOf, typeInfo, hj, run_sameAddr_same]
  simp only [binOp]
  simp [Op.equal, Op.maxDepth, h 9999]
theorem keep_end {W15 W2 cur : World} {B N wz : Nat} {k u u' s : Value} (M : Nat) (hu : u = u') (hO : Only (fun k => k = B ∨ N ≤ k) W15 W2) (hBW : Below W2.heap.size W2 cur) (hb : Blk 3 W2 B [k]) (hoff : ∀ g off n c, s = .slice (some ⟨g, off, none⟩) n c → g < wz) (hwB : wz ≤ B) :
    KeepsFrom M W2 (cur.setCell ⟨B, 0, none⟩ u) ∧ KpS s W2 (cur.setCell ⟨B, 0, none⟩ u) ∧ Blk 3 (cur.setCell ⟨B, 0, none⟩ u) B [u'] ∧ Only (fun k => k = B ∨ N ≤ k) W15 (cur.setCell ⟨B, 0, none⟩ u) :=
  ⟨((keeps_below hBW).trans (KeepsOthers.setCell _ _ _)).from M, kpS_only (S := fun k => k = B) ((Only.of_below hBW (fun k => k = B)).setCell (p := ⟨B, 0, none⟩) (.inl rfl) u) (fun g off n c hs e => by have := hoff g off n c hs; omega),
    hu ▸ (hb.below hBW hb.lt).set 0 u, (hO.trans (Only.of_below hBW _)).setCell (p := ⟨B, 0, none⟩) (.inl (.inl rfl)) u⟩
/-- The boxes of a call of same: the node, the list, how deep, the answer. -/
structure Bx (w W : World) (p q d : Value) : Prop where
  b0 : Blk 29 W w.heap.size [p]
  b1 : Blk 25 W (w.heap.size + 1) [q]
  b2 : Blk 3 W (w.heap.size + 1 + 1) [d]
  b3 : Blk 4 W (w.heap.size + 1 + 1 + 1) [.bool false]
  low : Below w.heap.size w W
theorem Bx.below {w W W' : World} {p q d : Value} (h : Bx w W p q d) (hb : Below W.heap.size W W') : Bx w W' p q d :=
  ⟨h.b0.below hb h.b0.lt, h.b1.below hb h.b1.lt, h.b2.below hb h.b2.lt, h.b3.below hb h.b3.lt, below_step h.low hb⟩
theorem Bx.only {w W W' : World} {p q d : Value} {S : Nat → Prop} (h : Bx w W p q d) (ho : Only S W W') (hS : ∀ k, k ≤ w.heap.size + 3 → ¬ S k) : Bx w W' p q d :=
  ⟨h.b0.only ho (hS _ (by omega)), h.b1.only ho (hS _ (by omega)), h.b2.only ho (hS _ (by omega)), h.b3.only ho (hS _ (by omega)), h.low.trans (ho.below (by have := h.low.size; omega) (fun k hk e => hS k (by omega) e))⟩
/-- And the document's node, a number, the set. -/
structure Fr (w W : World) (p q d : Value) (B9 B10 B11 : Nat) (c : Tri) (iv : Int) (s : Value) : Prop where
  bx : Bx w W p q d
  n9 : Blk 63 W B9 (triC c)
  i10 : Blk 3 W B10 [.int .i64 iv]
  s11 : Blk 45 W B11 [s]
theorem Fr.below {w W W' : World} {p q d s : Value} {B9 B10 B11 : Nat} {c : Tri} {iv : Int} (h : Fr w W p q d B9 B10 B11 c iv s) (hb : Below W.heap.size W W') : Fr w W' p q d B9 B10 B11 c iv s :=
  ⟨h.bx.below hb, h.n9.below hb h.n9.lt, h.i10.below hb h.i10.lt, h.s11.below hb h.s11.lt⟩
theorem Fr.alloc {w W : World} {p q d s : Value} {B9 B10 B11 : Nat} {c : Tri} {iv : Int} (h : Fr w W p q d B9 B10 B11 c iv s) (o : Obj) : Fr w (W.alloc o) p q d B9 B10 B11 c iv s := h.below (new_below _ _)
theorem fourN (w : World) (p q d : Value) : ∃ W, (((w.alloc (.cells #[p] 29)).alloc (.cells #[q] 25)).alloc (.cells #[d] 3)).alloc (.cells #[.bool false] 4) = W ∧ W.heap.size = w.heap.size + 4 ∧ Bx w W p q d := by
  have h1 := new_below w (.cells #[p] 29)
  have h2 := below_step h1 (new_below _ (.cells #[q] 25))
  have h3 := below_step h2 (new_below _ (.cells #[d] 3))
  have h4 := below_step h3 (new_below _ (.cells #[.bool false] 4))
  have b0 : Blk 29 (w.alloc (.cells #[p] 29)) w.heap.size [p] := Blk.new
  have b1 : Blk 25 ((w.alloc (.cells #[p] 29)).alloc (.cells #[q] 25)) (w.heap.size + 1) [q] := by
    have := Blk.new (W := w.alloc (.cells #[p] 29)) (t := 25) (l := [q])
    rw [World.size_alloc] at this; exact this
  have b2 : Blk 3 (((w.alloc (.cells #[p] 29)).alloc (.cells #[q] 25)).alloc (.cells #[d] 3)) (w.heap.size + 1 + 1) [d] := by
    have := Blk.new (W := (w.alloc (.cells #[p] 29)).alloc (.cells #[q] 25)) (t := 3) (l := [d])
    rw [World.size_alloc, World.size_alloc] at this; exact this
  have b3 : Blk 4 ((((w.alloc (.cells #[p] 29)).alloc (.cells #[q] 25)).alloc (.cells #[d] 3)).alloc (.cells #[.bool false] 4)) (w.heap.size + 1 + 1 + 1) [.bool false] := by
    have := Blk.new (W := ((w.alloc (.cells #[p] 29)).alloc (.cells #[q] 25)).alloc (.cells #[d] 3)) (t := 4) (l := [.bool false])
    rw [World.size_alloc, World.size_alloc, World.size_alloc] at this; exact this
  exact ⟨_, rfl, by simp, ((b0.alloc _).alloc _).alloc _, (b1.alloc _).alloc _, b2.alloc _, b3, h4⟩

set_option maxRecDepth 100000 in
set_option maxHeartbeats 40000000 in
theorem law_same12 {S : Nat → Prop} (dp : Nat) (ih : ∀ d', d' < dp → ∀ (w : World) (lo A : Nat) (v : Value) (L : List NdR) (i : Nat) (r : NdR), Core S w lo A v L → L[i]? = some r → L.length ≤ 100 →
      Calls Try.prog 15 #[.pointer (some ⟨r.b, 0, none⟩), .pointer (some ⟨A, 0, none⟩), .int .i64 (i : Int), .int .i64 (d' : Int)] w fun e w' => e = .returned (.bool true) ∧ Below w.heap.size w w')
    (w : World) (lo A : Nat) (v : Value) (L : List NdR) (i : Nat) (r : NdR) (hC : Core S w lo A v L) (hr : L[i]? = some r) (hL : L.length ≤ 100) (hdp : dp ≤ 2) :
    Calls Try.prog 15 #[.pointer (some ⟨r.b, 0, none⟩), .pointer (some ⟨A, 0, none⟩), .int .i64 (i : Int), .int .i64 (dp : Int)] w fun e w' => e = .returned (.bool true) ∧ Below w.heap.size w w' := by
  have HI := Lib.hid ih
  have HC := Lib.hid hC
  have HR := Lib.hid hr
  have HL := Lib.hid hL
  have HOK := Lib.hid (hC.own_ok hr)
  have HOW := Lib.hid (own_of hr)
  have hnil1 : ∀ (W : World) (p : Array Value), Sem.run Try.prog (binOp BinOp.eql 73 (Value.func (Fn.func 43) #[] p) Value.nilFunc) W = .ok (.bool false) W := fun _ _ => by kernel_rfl
  have hnil2 : ∀ (W : World) (p : Array Value), Sem.run Try.prog (binOp BinOp.eql 48 (Value.func (Fn.func 44) #[] p) Value.nilFunc) W = .ok (.bool false) W := fun _ _ => by kernel_rfl
  obtain ⟨rb, rz, rt, rsubs, rkids⟩ := r
  obtain ⟨a1, n1, c1, a2, n2, c2, a3, n3, c3, het⟩ := HOK.out
  dsimp only at het
  subst het
  have hone := (hC.all i _ hr).1
  have hnum : NumsIn w (.slice a1 n1 c1) rsubs := hone.nums
  have href : RefIn w (.agg #[.slice a2 n2 c2, .slice a3 n3 c3]) rkids := hone.ref
  obtain ⟨_, _, hen, _⟩ := hnum.form
  cases hen
  obtain ⟨_, _, _, _, hen, hen2⟩ := refIn_form href
  cases hen
  cases hen2
  have hN1 := Lib.hid hnum
  have E1 : Hid (∀ k, k < rsubs.length → ∃ b off, a1 = some ⟨b, off, none⟩ ∧ b < w.heap.size ∧ w.cell? ⟨b, off + k, none⟩ = some (.int .i64 (rsubs.getD k 0))) := Lib.hid (by
    obtain ⟨a', c', he, hf⟩ := hnum.form
    cases he
    exact hf)
  have R1 : Hid (∀ k q, rkids[k]? = some q → (∃ b off, a2 = some ⟨b, off, none⟩ ∧ b < w.heap.size ∧ w.cell? ⟨b, off + k, none⟩ = some (keyV q.1)) ∧ (∃ b off, a3 = some ⟨b, off, none⟩ ∧ b < w.heap.size ∧ w.cell? ⟨b, off + k, none⟩ = some (numV q.2))) := Lib.hid (by
    obtain ⟨ka, kc, va, vc, he, r1, r2⟩ := href
    cases he
    exact fun k q hq => ⟨slice_at (f := fun p : Ent => keyV p.1) r1 k q hq, slice_at (f := fun p : Ent => numV p.2) r2 k q hq⟩)
  clear hnum href
  obtain ⟨bz, hbz⟩ : ∃ bz : Bool, bz = true ↔ rsubs = [] ∧ rkids = [] := ⟨decide (rsubs = [] ∧ rkids = []), by simp⟩
  have HBZ := Lib.hid hbz
  clear hone hbz
  clear ih hC hr hL HOK
  refine (callsIn_wide (n := 6)).1 ?_
  refine callsIn_of_wp_marks Try.func15 rfl trivial ?_ rfl
  simp only [Try.ntmps15, List.size_toArray, List.length_cons, List.length_nil, Nat.reduceAdd, Nat.reduceSub, Array.replicate_succ, Array.replicate_zero, List.push_toArray, List.append_toArray, List.nil_append, List.cons_append]
  gi_wp2_with fail
  obtain ⟨W4, hW4, z4, hx4⟩ := fourN w (.pointer (some ⟨rb, 0, none⟩)) (.pointer (some ⟨A, 0, none⟩)) (.int .i64 (dp : Int))
  rw [hW4]
  clear hW4
  have X4 := Lib.hid hx4
  have y4 : w.heap.size + 3 < W4.heap.size := by omega
  clear z4
  have k1 := hx4.b1.at (o := 0) rfl
  clear hx4
  gi_wp2_with fail
  have ho := ref_Own (HC.out.below X4.out.low).row (i : Int)
  rw [HOW.out] at ho
  refine ⟨trivial, (callsIn_wide.2 ho).mono ?_⟩
  rintro e w5 ⟨rfl, hB5⟩
  have X5 := Lib.hid (X4.out.below hB5)
  have z5 := hB5.size
  rw [show triA (Value.slice a1 rsubs.length c1, Value.slice a2 rkids.length c2, Value.slice a3 rkids.length c3) = Value.agg #[.slice a1 rsubs.length c1, .slice a2 rkids.length c2, .slice a3 rkids.length c3] from rfl]
  clear hB5 ho k1
  have k0 : ∀ o o', ((w5.alloc o).alloc o').cell? ⟨w.heap.size, 0, none⟩ = some (.pointer (some ⟨rb, 0, none⟩)) := fun o o' => ((X5.out.b0.alloc o).alloc o').at (o := 0) rfl
  gi_wp2_with fail
  obtain ⟨W7, hW7⟩ : ∃ W, W = (w5.alloc (.cells #[.slice a1 rsubs.length c1, .slice a2 rkids.length c2, .slice a3 rkids.length c3] 63)).alloc (.cells #[.int .i64 0] 3) := ⟨_, rfl⟩
  have hB7 : Below w5.heap.size w5 W7 := by rw [hW7]; exact below_step (new_below _ _) (new_below _ _)
  have N7 : Blk 63 W7 w5.heap.size [.slice a1 rsubs.length c1, .slice a2 rkids.length c2, .slice a3 rkids.length c3] := by rw [hW7]; exact Blk.alloc Blk.new _
  have I7 : Blk 3 W7 (w5.heap.size + 1) [.int .i64 0] := by
    rw [hW7]
    have := Blk.new (W := w5.alloc (.cells #[.slice a1 rsubs.length c1, .slice a2 rkids.length c2, .slice a3 rkids.length c3] 63)) (t := 3) (l := [.int .i64 0])
    rw [World.size_alloc] at this; exact this
  have z7 : w5.heap.size + 1 < W7.heap.size := I7.lt
  rw [← hW7]
  clear hW7 k0
  have X7 := Lib.hid (X5.out.below hB7)
  clear hB7
  obtain ⟨sa, sn, sc, hsw, hsc⟩ := nd_SubsW _ _ _ _ w (HC.out.pis HR.out)
  have SW := Lib.hid hsw
  refine ⟨trivial, (callsIn_wide.2 (hsc W7 X7.out.low)).mono ?_⟩
  rintro e w8 ⟨rfl, hB8⟩
  have X8 := Lib.hid (X7.out.below hB8)
  have N8 := N7.below hB8 N7.lt
  have I8 := I7.below hB8 I7.lt
  have z8 := hB8.size
  have S8 := Lib.hid (hsw.below X8.out.low)
  clear hsw hsc hB8 N7 I7
  gi_wp2_with fail
  obtain ⟨W9, hW9⟩ : ∃ W, W = w8.alloc (.cells #[.slice sa sn sc] 45) := ⟨_, rfl⟩
  have hB9 : Below w8.heap.size w8 W9 := by rw [hW9]; exact new_below _ _
  have F9 : Hid (Fr w W9 (.pointer (some ⟨rb, 0, none⟩)) (.pointer (some ⟨A, 0, none⟩)) (.int .i64 (dp : Int)) w5.heap.size (w5.heap.size + 1) w8.heap.size (.slice a1 rsubs.length c1, .slice a2 rkids.length c2, .slice a3 rkids.length c3) 0 (.slice sa sn sc)) := Lib.hid
    ⟨X8.out.below hB9, N8.below hB9 N8.lt, I8.below hB9 I8.lt, by rw [hW9]; exact Blk.new⟩
  have z9 : w8.heap.size < W9.heap.size := F9.out.s11.lt
  have S9 := Lib.hid (S8.out.below hB9)
  rw [← hW9]
  clear hW9 hB9 N8 I8 S8 X8 X7 X5 X4
  obtain ⟨⟨s', hv, hn9⟩, hup⟩ := S9.out
  cases hv
  refine ⟨trivial, (callsIn_wide.2 (set_All _ rsubs W9 hn9)).mono ?_⟩
  rintro e w10 ⟨rfl, rfl⟩
  have k0 : ∀ o, (W9.alloc o).cell? ⟨w.heap.size, 0, none⟩ = some (.pointer (some ⟨rb, 0, none⟩)) := fun o => (F9.out.bx.b0.alloc o).at (o := 0) rfl
  have k11 : (W9.alloc (.cells #[.slice sa sn sc] 45)).cell? ⟨w8.heap.size, 0, none⟩ = some (.slice sa sn sc) := (F9.out.s11.alloc _).at (o := 0) rfl
  gi_wp2_with fail
  obtain ⟨W10, hW10⟩ : ∃ W, W = W9.alloc (.cells #[.slice sa sn sc] 45) := ⟨_, rfl⟩
  have hB10 : Below W9.heap.size W9 W10 := by rw [hW10]; exact new_below _ _
  have F10 := Lib.hid (F9.out.below hB10)
  have z10 : W9.heap.size < W10.heap.size := by rw [hW10]; simp
  have c10 : W10.cell? ⟨W9.heap.size, 0, none⟩ = some (.slice sa sn sc) := by rw [hW10]; simp
  have N10 := Lib.hid (hn9.below hB10)
  rw [← hW10]
  clear hW10 hB10 k0 k11 hn9 F9
  obtain ⟨s2, hks, hcs, hcall⟩ := nd_Kids _ _ _ _ w (HC.out.pis HR.out)
  have KW := Lib.hid hks
  refine ⟨trivial, (callsIn_wide.2 (hcall W10 F10.out.bx.low)).mono ?_⟩
  rintro e w11 ⟨W11, hB11, rfl, rfl⟩
  obtain ⟨W12, hW12⟩ : ∃ W, W = W11.alloc (.cells #[s2] 54) := ⟨_, rfl⟩
  have hB12 : Below W10.heap.size W10 W12 := by rw [hW12]; exact below_step hB11 (new_below _ _)
  have F12 := Lib.hid (F10.out.below hB12)
  have z12 : W11.heap.size < W12.heap.size := by rw [hW12]; simp
  have z11 := hB11.size
  have c11 : W12.cell? ⟨W11.heap.size, 0, none⟩ = some s2 := by rw [hW12]; simp
  have c12 : W12.cell? ⟨W9.heap.size, 0, none⟩ = some (.slice sa sn sc) := (hB12.cell (p := ⟨W9.heap.size, 0, none⟩) (by show W9.heap.size < W10.heap.size; omega)).trans c10
  have N12 := Lib.hid (N10.out.below hB12)
  rw [← hW12]
  clear hW12 hB12 hB11 hcall hcs hks N10 F10 c10 S9
  gi_wp2_with fail
  have C12 := Lib.hid (HC.out.below F12.out.bx.low)
  have SX : Hid (∀ c, Below W12.heap.size W12 c → (c.cell? ⟨w.heap.size, 0, none⟩ = some (.pointer (some ⟨rb, 0, none⟩)) ∧ c.cell? ⟨w.heap.size + 1, 0, none⟩ = some (.pointer (some ⟨A, 0, none⟩)) ∧ c.cell? ⟨w5.heap.size, 0, none⟩ = some (.slice a1 rsubs.length c1) ∧ c.cell? ⟨w8.heap.size, 0, none⟩ = some (.slice sa sn sc))) := Lib.hid fun c hc =>
    ⟨(F12.out.bx.b0.below hc F12.out.bx.b0.lt).at (o := 0) rfl, (F12.out.bx.b1.below hc F12.out.bx.b1.lt).at (o := 0) rfl, (F12.out.n9.below hc F12.out.n9.lt).at (o := 0) rfl, (F12.out.s11.below hc F12.out.s11.lt).at (o := 0) rfl⟩
  have hC : Below W12.heap.size W12 W12.drew := (Below.refl _ _).drew
  refine wpIn_wide.2 ?_
  rename_i Kx hKx
  refine wp_mono (Q := Exit.then Kx (fun _ _ _ => False)) ?_ (fun e a w h => by cases e <;> first | exact h | exact h.elim)
  refine wp_region_held_drew (S := (fun w' => w'.cell? ⟨w.heap.size, 0, none⟩ = some (.pointer (some ⟨rb, 0, none⟩)) ∧ w'.cell? ⟨w.heap.size + 1, 0, none⟩ = some (.pointer (some ⟨A, 0, none⟩)) ∧ w'.cell? ⟨w5.heap.size, 0, none⟩ = some (.slice a1 rsubs.length c1) ∧ w'.cell? ⟨w8.heap.size, 0, none⟩ = some (.slice sa sn sc))) (by kernel_rfl) ?_ (fun hHeld => ?_)
  · exact SX.out _ hC
  refine wpAnyH_take (i := 0) (oi := ⟨some 26, _, _, _, _, _⟩) (v := ?_) rfl (by kernel_rfl) (by kernel_rfl) (by kernel_rfl) (fun _ _ _ h => h) (Or.inl ⟨by rfl, ?_⟩) (by assumption) ?_
  rotate_left
  · (intro w hSw; (try dsimp only at hSw); go_simp; try with_reducible rfl)
  try simp only [Act.put, List.setIfInBounds_toArray, List.set_cons_zero, List.set_cons_succ]
  refine wpAnyH_take (i := 1) (oi := ⟨some 27, _, _, _, _, _⟩) (v := ?_) rfl (by kernel_rfl) (by kernel_rfl) (by kernel_rfl) (fun _ _ _ h => h) (Or.inl ⟨by rfl, ?_⟩) (by assumption) ?_
  rotate_left
  · (intro w hSw; (try dsimp only at hSw); go_simp; try with_reducible rfl)
  try simp only [Act.put, List.setIfInBounds_toArray, List.set_cons_zero, List.set_cons_succ]
  refine wpAnyH_take (i := 2) (oi := ⟨some 28, _, _, _, _, _⟩) (v := ?_) rfl (by kernel_rfl) (by kernel_rfl) (by kernel_rfl) (fun _ _ _ h => h) (Or.inl ⟨by rfl, ?_⟩) (by assumption) ?_
  rotate_left
  · (intro w hSw; (try dsimp only at hSw); go_simp; try with_reducible rfl)
  try simp only [Act.put, List.setIfInBounds_toArray, List.set_cons_zero, List.set_cons_succ]
  refine wpAnyH_take (i := 3) (oi := ⟨some 29, _, _, _, _, _⟩) (v := ?_) rfl (by kernel_rfl) (by kernel_rfl) (by kernel_rfl) (fun _ _ _ h => h) (Or.inl ⟨by rfl, ?_⟩) (by assumption) ?_
  rotate_left
  · (intro w hSw; (try dsimp only at hSw); go_simp; try with_reducible rfl)
  try simp only [Act.put, List.setIfInBounds_toArray, List.set_cons_zero, List.set_cons_succ]
  refine wpAnyH_take (i := 4) (oi := ⟨some 30, _, _, _, _, _⟩) (v := ?_) rfl (by kernel_rfl) (by kernel_rfl) (by kernel_rfl) (fun _ _ _ h => h) (Or.inl ⟨by rfl, ?_⟩) (by assumption) ?_
  rotate_left
  · (intro w hSw; (try dsimp only at hSw); go_simp; try with_reducible rfl)
  try simp only [Act.put, List.setIfInBounds_toArray, List.set_cons_zero, List.set_cons_succ]
  refine wpAnyH_take (i := 5) (oi := ⟨some 31, _, _, _, _, _⟩) (v := ?_) rfl (by kernel_rfl) (by kernel_rfl) (by kernel_rfl) (fun _ _ _ h => h) (Or.inl ⟨by rfl, ?_⟩) (by assumption) ?_
  rotate_left
  · (intro w hSw; (try dsimp only at hSw); go_simp; try with_reducible rfl)
  try simp only [Act.put, List.setIfInBounds_toArray, List.set_cons_zero, List.set_cons_succ]
  refine wpAnyH_take (i := 6) (oi := ⟨some 32, _, _, _, _, _⟩) (v := ?_) rfl (by kernel_rfl) (by kernel_rfl) (by kernel_rfl) (fun _ _ _ h => h) (Or.inl ⟨by rfl, ?_⟩) (by assumption) ?_
  rotate_left
  · (intro w hSw; (try dsimp only at hSw); go_simp; try with_reducible rfl)
  try simp only [Act.put, List.setIfInBounds_toArray, List.set_cons_zero, List.set_cons_succ]
  refine wpAnyH_take (i := 7) (oi := ⟨some 33, _, _, _, _, _⟩) (v := ?_) rfl (by kernel_rfl) (by kernel_rfl) (by kernel_rfl) (fun _ _ _ h => h) (Or.inl ⟨by rfl, ?_⟩) (by assumption) ?_
  rotate_left
  · (intro w hSw; (try dsimp only at hSw); go_simp; try with_reducible rfl)
  try simp only [Act.put, List.setIfInBounds_toArray, List.set_cons_zero, List.set_cons_succ]
  refine wpAnyH_take (i := 9) (oi := ⟨some 35, _, _, _, _, _⟩) (v := ?_) rfl (by kernel_rfl) (by kernel_rfl) (by kernel_rfl) (fun _ _ _ h => h) (Or.inl ⟨by rfl, ?_⟩) (by assumption) ?_
  rotate_left
  · (intro w hSw; (try dsimp only at hSw); go_simp; try with_reducible rfl)
  try simp only [Act.put, List.setIfInBounds_toArray, List.set_cons_zero, List.set_cons_succ]
  refine wpAnyH_take (i := 10) (oi := ⟨some 36, _, _, _, _, _⟩) (v := ?_) rfl (by kernel_rfl) (by kernel_rfl) (by kernel_rfl) (fun _ _ _ h => h) (Or.inl ⟨by rfl, ?_⟩) (by assumption) ?_
  rotate_left
  · (intro w hSw; (try dsimp only at hSw); go_simp; try with_reducible rfl)
  try simp only [Act.put, List.setIfInBounds_toArray, List.set_cons_zero, List.set_cons_succ]
  refine wpAnyH_take (i := 11) (oi := ⟨some 37, _, _, _, _, _⟩) (v := ?_) rfl (by kernel_rfl) (by kernel_rfl) (by kernel_rfl) (fun _ _ _ h => h) (Or.inl ⟨by rfl, ?_⟩) (by assumption) ?_
  rotate_left
  · (intro w hSw; (try dsimp only at hSw); go_simp; try with_reducible rfl)
  try simp only [Act.put, List.setIfInBounds_toArray, List.set_cons_zero, List.set_cons_succ]
  refine wpAnyH_ready (rs := [8]) (by kernel_rfl) (by simp) ?_
  refine AllReadyH.cons (o := ⟨some 34, _, _, _, _, _⟩) rfl (fun K hK => ?_) AllReadyH.nil
  go_simp
  refine (set_Len _ rsubs _ ⟨⟨_, rfl, N12.out.below hC⟩, hup⟩).mono ?_
  rintro e wx ⟨rfl, hBx⟩
  replace hC := below_step hC hBx
  clear hBx
  go_wp2_with fail
  refine hK.out _ _ ?_ (fun hHeldX => ?_)
  · exact SX.out _ hC
  clear hK K hHeld
  rename _ => hHeld
  try simp only [Act.put, List.setIfInBounds_toArray, List.set_cons_zero, List.set_cons_succ]
  refine wpAnyH_take (i := 12) (oi := ⟨some 38, _, _, _, _, _⟩) (v := ?_) rfl (by kernel_rfl) (by kernel_rfl) (by kernel_rfl) (fun _ _ _ h => h) (Or.inl ⟨by rfl, ?_⟩) (by assumption) ?_
  rotate_left
  · (intro w hSw; (try dsimp only at hSw); go_simp; try with_reducible rfl)
  try simp only [Act.put, List.setIfInBounds_toArray, List.set_cons_zero, List.set_cons_succ]
  refine wpAnyH_take (i := 13) (oi := ⟨some 39, _, _, _, _, _⟩) (v := ?_) rfl (by kernel_rfl) (by kernel_rfl) (by kernel_rfl) (fun _ _ _ h => h) (Or.inl ⟨by rfl, ?_⟩) (by assumption) ?_
  rotate_left
  · (intro w hSw; (try dsimp only at hSw); go_simp; try with_reducible rfl)
  try simp only [Act.put, List.setIfInBounds_toArray, List.set_cons_zero, List.set_cons_succ]
  refine wpAnyH_take (i := 14) (oi := ⟨some 40, _, _, _, _, _⟩) (v := ?_) rfl (by kernel_rfl) (by kernel_rfl) (by kernel_rfl) (fun _ _ _ h => h) (Or.inl ⟨by rfl, ?_⟩) (by assumption) ?_
  rotate_left
  · (intro w hSw; (try dsimp only at hSw); go_simp; try with_reducible rfl)
  try simp only [Act.put, List.setIfInBounds_toArray, List.set_cons_zero, List.set_cons_succ]
  refine wpAnyH_take (i := 15) (oi := ⟨some 41, _, _, _, _, _⟩) (v := ?_) rfl (by kernel_rfl) (by kernel_rfl) (by kernel_rfl) (fun _ _ _ h => h) (Or.inl ⟨by rfl, ?_⟩) (by assumption) ?_
  rotate_left
  · (intro w hSw; (try dsimp only at hSw); go_simp; try with_reducible rfl)
  try simp only [Act.put, List.setIfInBounds_toArray, List.set_cons_zero, List.set_cons_succ]
  refine wpAnyH_take (i := 17) (oi := ⟨some 43, _, _, _, _, _⟩) (v := ?_) rfl (by kernel_rfl) (by kernel_rfl) (by kernel_rfl) (fun _ _ _ h => h) (Or.inl ⟨by rfl, ?_⟩) (by assumption) ?_
  rotate_left
  · (intro w hSw; (try dsimp only at hSw); go_simp; try with_reducible rfl)
  try simp only [Act.put, List.setIfInBounds_toArray, List.set_cons_zero, List.set_cons_succ]
  refine wpAnyH_take (i := 18) (oi := ⟨some 44, _, _, _, _, _⟩) (v := ?_) rfl (by kernel_rfl) (by kernel_rfl) (by kernel_rfl) (fun _ _ _ h => h) (Or.inl ⟨by rfl, ?_⟩) (by assumption) ?_
  rotate_left
  · (intro w hSw; (try dsimp only at hSw); go_simp; try with_reducible rfl)
  try simp only [Act.put, List.setIfInBounds_toArray, List.set_cons_zero, List.set_cons_succ]
  refine wpAnyH_ready (rs := [16]) (by kernel_rfl) (by simp) ?_
  refine AllReadyH.cons (o := ⟨some 42, _, _, _, _, _⟩) rfl (fun K hK => ?_) AllReadyH.nil
  go_simp
  refine (nd_Bare _ _ _ _ _ ((C12.out.below hC).pis HR.out) bz (by rw [toP_nil]; exact HBZ.out)).mono ?_
  rintro e wx ⟨rfl, hBx⟩
  replace hC := below_step hC hBx
  clear hBx
  go_wp2_with fail
  refine hK.out _ _ ?_ (fun hHeldX => ?_)
  · exact SX.out _ hC
  clear hK K hHeld
  rename _ => hHeld
  try simp only [Act.put, List.setIfInBounds_toArray, List.set_cons_zero, List.set_cons_succ]
  refine wpAnyH_ready (rs := [19]) (by kernel_rfl) (by simp) ?_
  refine AllReadyH.cons (o := ⟨some 45, _, _, _, _, _⟩) rfl (fun K hK => ?_) AllReadyH.nil
  go_simp
  refine (ref_Bare (C12.out.below hC).row (i : Int) _ _ _ _ _ _ _ _ _ HOW.out bz (by rw [HBZ.out, List.length_eq_zero_iff, List.length_eq_zero_iff])).mono ?_
  rintro e wx ⟨rfl, hBx⟩
  replace hC := below_step hC hBx
  clear hBx
  go_wp2_with fail
  refine hK.out _ _ ?_ (fun hHeldX => ?_)
  · exact SX.out _ hC
  clear hK K hHeld
  rename _ => hHeld
  try simp only [Act.put, List.setIfInBounds_toArray, List.set_cons_zero, List.set_cons_succ]
  refine wpAnyH_take (i := 20) (oi := ⟨some 46, _, _, _, _, _⟩) (v := ?_) rfl (by kernel_rfl) (by kernel_rfl) (by kernel_rfl) (fun _ _ _ h => h) (Or.inl ⟨by rfl, ?_⟩) (by assumption) ?_
  rotate_left
  · (intro w hSw; (try dsimp only at hSw); go_simp; try with_reducible rfl)
  try simp only [Act.put, List.setIfInBounds_toArray, List.set_cons_zero, List.set_cons_succ]
  refine wpAnyH_take (i := 21) (oi := ⟨some 47, _, _, _, _, _⟩) (v := ?_) rfl (by kernel_rfl) (by kernel_rfl) (by kernel_rfl) (fun _ _ _ h => h) (Or.inl ⟨by rfl, ?_⟩) (by assumption) ?_
  rotate_left
  · (intro w hSw; (try dsimp only at hSw); go_simp; try with_reducible rfl)
  try simp only [Act.put, List.setIfInBounds_toArray, List.set_cons_zero, List.set_cons_succ]
  refine wpAnyH_done (by kernel_rfl) ?_ _
  refine hKx _ _ ?_
  have F13 := Lib.hid (F12.out.below hC)
  have z13 := hC.size
  have c13a : wx.cell? ⟨W9.heap.size, 0, none⟩ = some (.slice sa sn sc) := (hC.cell (p := ⟨W9.heap.size, 0, none⟩) (by show W9.heap.size < W12.heap.size; omega)).trans c12
  have c13b : wx.cell? ⟨W11.heap.size, 0, none⟩ = some s2 := (hC.cell (p := ⟨W11.heap.size, 0, none⟩) (by show W11.heap.size < W12.heap.size; omega)).trans c11
  clear hHeld hC SX C12 N12 F12 c11 c12 hnil1 hnil2
  gi_wp2_with fail
  have hl13 : LiesIn wx w.heap.size (.slice sa sn sc) rsubs := by
    obtain ⟨⟨s', hv, hn'⟩, _⟩ := SW.out
    cases hv
    exact hn'.lies.below F13.out.bx.low
  have hlen1 : rsubs.length ≤ 1000000 := by have := (HC.out.all _ _ HR.out).2.subs; have := (List.getElem?_eq_some_iff.1 HR.out).1; have := HL.out; simp at *; omega
  refine wpIn_rangeFunc_ownG rfl (by omega) (gf := 43) (lb := #[.pointer (some ⟨W9.heap.size, 0, none⟩)]) rfl trivial (enters_of Try.func43 (by kernel_rfl) rfl)
    (set_All_stops 5 (by omega) W9.heap.size w.heap.size (.slice sa sn sc) rsubs hlen1 wx (by omega) (by omega) c13a hl13) belowK_t (belowK_b (by omega)) (Below.refl _ _) (fun _ => rfl)
    (fun (pre : List Int) W => (Blk 3 W (w5.heap.size + 1) [.int .i64 (pre.length : Int)] ∧ pre <+: rsubs) ∧ Only (fun k => k = w5.heap.size + 1 ∨ wx.heap.size ≤ k) wx W)
    (fun _ pre _ => ¬ (pre <+: rsubs))
    (OwnFrom.and (OwnFrom.and (Own.from (blk_own 3 (w5.heap.size + 1) (fun pre : List Int => [.int .i64 (pre.length : Int)])) _) (ownFrom_pure _ (fun pre : List Int => pre <+: rsubs))) (ownFrom_only12 (Nat.le_refl _) (fun k hk => .inr hk)))
    (fun _ => ownFrom_pure _ (fun pre : List Int => ¬ (pre <+: rsubs)))
    ⟨⟨F13.out.i10, List.nil_prefix⟩, Only.refl _ _⟩
    (fun x => { tmps := #[.pointer (some ⟨rb, 0, none⟩), .pointer (some ⟨A, 0, none⟩), .int .i64 (i : Int), .int .i64 (dp : Int), .pointer (some ⟨w.heap.size, 0, none⟩), .pointer (some ⟨w.heap.size + 1, 0, none⟩), undef, .pointer (some ⟨w.heap.size + 1 + 1, 0, none⟩), .pointer (some ⟨w.heap.size + 1 + 1 + 1, 0, none⟩), .pointer (some ⟨w5.heap.size, 0, none⟩), .pointer (some ⟨w5.heap.size + 1, 0, none⟩), .pointer (some ⟨w8.heap.size, 0, none⟩), .func (.func 43) #[] #[.pointer (some ⟨W9.heap.size, 0, none⟩)], .func (.func 44) #[] #[.pointer (some ⟨W11.heap.size, 0, none⟩)], .int .i64 x, undef, undef, .pointer (some ⟨A, 0, none⟩), .int .i64 (i : Int), .agg #[.slice a1 rsubs.length c1, .slice a2 rkids.length c2, .slice a3 rkids.length c3], .pointer (some ⟨rb, 0, none⟩), .agg #[.slice sa sn sc], .agg #[.slice sa sn sc], .func (.func 43) #[] #[.pointer (some ⟨W9.heap.size, 0, none⟩)], .pointer (some ⟨rb, 0, none⟩), .func (.func 44) #[] #[.pointer (some ⟨W11.heap.size, 0, none⟩)], .func (.func 43) #[] #[.pointer (some ⟨W9.heap.size, 0, none⟩)], .bool false, .bool false, .func (.func 44) #[] #[.pointer (some ⟨W11.heap.size, 0, none⟩)], .bool false, .bool false, .bool false, .agg #[.slice sa sn sc], .int .i64 (rsubs.length : Int), .pointer (some ⟨w5.heap.size, 0, none⟩), .slice a1 rsubs.length c1, .int .i64 (rsubs.length : Int), .bool false, .bool false, .bool false, .pointer (some ⟨rb, 0, none⟩), .bool bz, .pointer (some ⟨A, 0, none⟩), .int .i64 (i : Int), .bool bz, .bool false, .bool false, .func (.func 43) #[] #[.pointer (some ⟨W9.heap.size, 0, none⟩)], .int .i64 x, undef, undef, undef, undef, undef, undef, undef, undef, undef, undef, undef, undef, undef, undef, undef, undef, undef, undef, undef, undef, undef, undef, undef, undef, undef, undef, undef, undef, undef, undef, undef, undef, undef, undef, undef, undef, undef, undef, undef, undef, undef, undef, undef, undef, undef, undef, undef, undef, undef, undef, undef, undef, undef, undef, undef, undef, undef, undef, undef, undef, undef, undef, undef, undef, undef, undef], defers := [] }) ?assign ?body ?done ?stop
  case assign =>
    intro l x W K hK
    gi_wp2
    exact hK
  case body =>
    rintro l pre x W ⟨⟨hbk, hpre⟩, hO⟩ hlt
    have hlow : Below w.heap.size w W := F13.out.bx.low.trans (hO.below (by omega) (fun k hk e => by omega))
    have ck := hbk.at (o := 0) rfl
    have fk := hbk.frozen 0
    have n9 := F13.out.n9.only hO (fun e => by have := F13.out.n9.lt; omega)
    have b3 := F13.out.bx.b3.only hO (fun e => by have := F13.out.bx.b3.lt; omega)
    have d9 := n9.at (o := 0) rfl
    have d3 := b3.at (o := 0) rfl
    have f3 := b3.frozen 0
    obtain ⟨b, off, rfl, hb, he⟩ := E1.out pre.length hlt
    have e0 := (hlow.cell (p := ⟨b, off + pre.length, none⟩) hb).trans he
    have hp : rsubs[pre.length]? = some (rsubs.getD pre.length 0) := by rw [List.getD_eq_getElem?_getD, List.getElem?_eq_getElem hlt]; rfl
    generalize rsubs.getD pre.length 0 = y at e0 hp
    have HP := Lib.hid hpre
    have HY := Lib.hid hp
    have HB := Lib.hid hbk
    have HO := Lib.hid hO
    have hlt2 : (pre.length : Int) < (rsubs.length : Int) := by omega
    have hw5 : w.heap.size ≤ w5.heap.size + 1 := by omega
    have hge : decide ((rsubs.length : Int) ≤ (pre.length : Int)) = false := by simp; omega
    have hge2 : decide (rsubs.length ≤ pre.length) = false := by simp; omega
    have hl3 : (pre.length : Int) ≤ 1000000 := by omega
    clear hbk hO hlow n9 b3 he hp hpre
    by_cases hx : x = y
    · subst hx
      gi_wp2
      refine ⟨(KeepsOthers.setCell _ _ _).from _, (Below.refl _ _).setCell (p := ⟨w5.heap.size + 1, 0, none⟩) hw5 _, ⟨?_, pre_snoc HP.out HY.out⟩, HO.out.setCell (p := ⟨w5.heap.size + 1, 0, none⟩) (.inl (.inl rfl)) _⟩
      have := HB.out.set 0 (.int .i64 ((pre.length : Int) + 1))
      simpa using this
    · have h3 : (x == y) = false := by simpa using hx
      have h4 : (x != y) = true := by simpa using hx
      have HX := Lib.hid hx
      clear hx
      gi_wp2
      refine ⟨(KeepsOthers.setCell _ _ _).from _, fun hh => ?_⟩
      have := pre_at hh
      rw [HY.out] at this
      cases this
      exact HX.out rfl
  case stop =>
    rintro D c pre W _ hsp h _
    exact (h hsp).elim
  case done =>
    rintro D ys W hD hys ⟨⟨hbk, _⟩, hO⟩ hK
    obtain ⟨iv, hiv⟩ : ∃ iv : Int, (ys.length : Int) = iv := ⟨_, rfl⟩
    rw [hiv] at hbk
    clear hiv hys
    have F14 : Hid (Fr w W (.pointer (some ⟨rb, 0, none⟩)) (.pointer (some ⟨A, 0, none⟩)) (.int .i64 (dp : Int)) w5.heap.size (w5.heap.size + 1) w8.heap.size (.slice a1 rsubs.length c1, .slice a2 rkids.length c2, .slice a3 rkids.length c3) iv (.slice sa sn sc)) := Lib.hid
      ⟨F13.out.bx.only hO (fun k hk e => by omega), F13.out.n9.only hO (fun e => by have := F13.out.n9.lt; omega), hbk, F13.out.s11.only hO (fun e => by have := F13.out.s11.lt; omega)⟩
    have c14 : W.cell? ⟨W11.heap.size, 0, none⟩ = some s2 := (World.cell?_of_block (w := wx) (hO.block W11.heap.size (by omega) (fun e => by omega))).trans c13b
    have z14 := hO.size
    have hDl : D < W.heap.size := (Array.getElem?_eq_some_iff.1 hK).1
    have hDn : D ≠ w5.heap.size + 1 := fun e => by
      have h1 : W.heap[w5.heap.size + 1]? = _ := hbk
      rw [e, h1] at hK
      cases hK
    have ck := hbk.at (o := 0) rfl
    have fk := hbk.frozen 0
    clear hbk hO c13a c13b F13 hl13
    gi_wp2_with fail
    obtain ⟨W15, hW15⟩ : ∃ X, X = W.setCell ⟨w5.heap.size + 1, 0, none⟩ (.int .i64 0) := ⟨_, rfl⟩
    have o15 : Only (fun k => k = w5.heap.size + 1) W W15 := by rw [hW15]; exact only_at W (w5.heap.size + 1) 0 _
    have i15 : Blk 3 W15 (w5.heap.size + 1) [.int .i64 ((0 : Nat) : Int)] := by rw [hW15]; exact F14.out.i10.set 0 (.int .i64 0)
    have F15 : Hid (Fr w W15 (.pointer (some ⟨rb, 0, none⟩)) (.pointer (some ⟨A, 0, none⟩)) (.int .i64 (dp : Int)) w5.heap.size (w5.heap.size + 1) w8.heap.size (.slice a1 rsubs.length c1, .slice a2 rkids.length c2, .slice a3 rkids.length c3) ((0 : Nat) : Int) (.slice sa sn sc)) := Lib.hid
      ⟨F14.out.bx.only o15 (fun k hk e => by omega), F14.out.n9.only o15 (fun e => by omega), i15, F14.out.s11.only o15 (fun e => by omega)⟩
    have c15 : W15.cell? ⟨W11.heap.size, 0, none⟩ = some s2 := (World.cell?_of_block (w := W) (o15.block W11.heap.size (by omega) (fun e => by omega))).trans c14
    have z15 := o15.size
    have K15 : W15.heap[D]? = some (.deferred (some [])) := (o15.block D hDl hDn).trans hK
    rw [← hW15]
    clear hW15 o15 i15 c14 ck fk F14 hK
    have hp15 : PtsIn W15 s2 (toP L rkids) := by
      obtain ⟨⟨s', hv, hn'⟩, _⟩ := KW.out.below F15.out.bx.low
      cases hv
      exact hn'
    have hoffW : ∀ g off n c, s2 = .slice (some ⟨g, off, none⟩) n c → g < w.heap.size := by
      obtain ⟨⟨s', hv, hn'⟩, _⟩ := KW.out
      cases hv
      intro g off n c he
      rcases hn'.2 with ⟨hv, _⟩ | ⟨g', off', cap', hv, _, hlt, _⟩
      · rw [hv] at he; cases he
      · rw [hv] at he; cases he; exact hlt
    have HOF := Lib.hid hoffW
    have hlen3 : rkids.length ≤ 101 := by
      have h1 : rkids.length ≤ i + 1 := (HC.out.all _ _ HR.out).2.kids
      have h2 := (List.getElem?_eq_some_iff.1 HR.out).1
      have h3 := HL.out
      omega
    have hlen2 : (toP L rkids).length ≤ 1000000 := by rw [toP_len]; omega
    clear hoffW
    refine wpIn_rangeFunc_ownG rfl (by omega) (gf := 44) (lb := #[.pointer (some ⟨W11.heap.size, 0, none⟩)]) rfl trivial (enters_of Try.func44 (by kernel_rfl) rfl)
      (kids_each_stops 5 (by omega) W11.heap.size s2 (toP L rkids) hlen2 W15 (by omega) c15 hp15) (fun h k => h.trans k) (fun W l o o' _ h h1 _ => kpS_book W l o o' h h1) (Below.refl _ _) (fun _ => rfl)
      (fun (pre : List { p : Ent // p ∈ toP L rkids }) W => (Blk 3 W (w5.heap.size + 1) [.int .i64 (pre.length : Int)] ∧ pre.map Subtype.val <+: toP L rkids) ∧ Only (fun k => k = w5.heap.size + 1 ∨ W15.heap.size ≤ k) W15 W)
      (fun _ pre _ => ¬ (pre.map Subtype.val <+: toP L rkids))
      (OwnFrom.and (OwnFrom.and (Own.from (blk_own 3 (w5.heap.size + 1) (fun pre : List { p : Ent // p ∈ toP L rkids } => [.int .i64 (pre.length : Int)])) _) (ownFrom_pure _ (fun pre : List { p : Ent // p ∈ toP L rkids } => pre.map Subtype.val <+: toP L rkids))) (ownFrom_only12 (Nat.le_refl _) (fun k hk => .inr hk)))
      (fun _ => ownFrom_pure _ (fun pre : List { p : Ent // p ∈ toP L rkids } => ¬ (pre.map Subtype.val <+: toP L rkids)))
      ⟨⟨F15.out.i10, List.nil_prefix⟩, Only.refl _ _⟩
      (fun y => { tmps := #[.pointer (some ⟨rb, 0, none⟩), .pointer (some ⟨A, 0, none⟩), .int .i64 (i : Int), .int .i64 (dp : Int), .pointer (some ⟨w.heap.size, 0, none⟩), .pointer (some ⟨w.heap.size + 1, 0, none⟩), undef, .pointer (some ⟨w.heap.size + 1 + 1, 0, none⟩), .pointer (some ⟨w.heap.size + 1 + 1 + 1, 0, none⟩), .pointer (some ⟨w5.heap.size, 0, none⟩), .pointer (some ⟨w5.heap.size + 1, 0, none⟩), .pointer (some ⟨w8.heap.size, 0, none⟩), .func (.func 43) #[] #[.pointer (some ⟨W9.heap.size, 0, none⟩)], .func (.func 44) #[] #[.pointer (some ⟨W11.heap.size, 0, none⟩)], undef, keyV y.1.1, ptrV y.1.2, .pointer (some ⟨A, 0, none⟩), .int .i64 (i : Int), .agg #[.slice a1 rsubs.length c1, .slice a2 rkids.length c2, .slice a3 rkids.length c3], .pointer (some ⟨rb, 0, none⟩), .agg #[.slice sa sn sc], .agg #[.slice sa sn sc], .func (.func 43) #[] #[.pointer (some ⟨W9.heap.size, 0, none⟩)], .pointer (some ⟨rb, 0, none⟩), .func (.func 44) #[] #[.pointer (some ⟨W11.heap.size, 0, none⟩)], .func (.func 43) #[] #[.pointer (some ⟨W9.heap.size, 0, none⟩)], .bool false, .bool false, .func (.func 44) #[] #[.pointer (some ⟨W11.heap.size, 0, none⟩)], .bool false, .bool false, .bool false, .agg #[.slice sa sn sc], .int .i64 (rsubs.length : Int), .pointer (some ⟨w5.heap.size, 0, none⟩), .slice a1 rsubs.length c1, .int .i64 (rsubs.length : Int), .bool false, .bool false, .bool false, .pointer (some ⟨rb, 0, none⟩), .bool bz, .pointer (some ⟨A, 0, none⟩), .int .i64 (i : Int), .bool bz, .bool false, .bool false, .func (.func 43) #[] #[.pointer (some ⟨W9.heap.size, 0, none⟩)], undef, undef, undef, undef, undef, undef, undef, undef, undef, undef, undef, undef, undef, undef, undef, undef, undef, .func (.func 44) #[] #[.pointer (some ⟨W11.heap.size, 0, none⟩)], keyV y.1.1, ptrV y.1.2, undef, undef, undef, undef, undef, undef, undef, undef, undef, undef, undef, undef, undef, undef, undef, undef, undef, undef, undef, undef, undef, undef, undef, undef, undef, undef, undef, undef, undef, undef, undef, undef, undef, undef, undef, undef, undef, undef, undef, undef, undef, undef, undef, undef, undef, undef, undef], defers := [] }) ?assign2 ?body2 ?done2 ?stop2
    case assign2 =>
      intro l x W K hK
      gi_wp2
      exact hK
    case stop2 =>
      rintro D c pre W _ hsp h _
      exact (h hsp).elim
    case done2 =>
      rintro D2 ys W2 hD2 hys ⟨⟨hbk, _⟩, hO⟩ hK2
      have hyl : (ys.length : Int) = (rkids.length : Int) := by
        have := congrArg List.length (show ys.map Subtype.val = toP L rkids from hys)
        rw [List.length_map, toP_len] at this
        omega
      rw [hyl] at hbk
      have n9 := F15.out.n9.only hO (fun e => by have := F15.out.n9.lt; omega)
      have b3 := F15.out.bx.b3.only hO (fun e => by have := F15.out.bx.b3.lt; omega)
      have hlow : Below w.heap.size w W2 := F15.out.bx.low.trans (hO.below (by omega) (fun k hk e => by omega))
      have K2 : W2.heap[D]? = some (.deferred (some [])) := (hO.block D (by omega) (fun e => by omega)).trans K15
      have ck := hbk.at (o := 0) rfl
      have d9 := n9.at (o := 1) rfl
      have d3 := b3.at (o := 0) rfl
      have f3 := b3.frozen 0
      obtain ⟨p1, p2, p3, p4⟩ := leaf2 hlow (B := w.heap.size + 1 + 1 + 1) (by omega) (by omega) (by omega) b3 K2 hK2 (.bool true)
      have P1 := Lib.hid p1
      have P2 := Lib.hid p2
      have P3 := Lib.hid p3
      have P4 := Lib.hid p4
      clear hys hyl hbk hO hK2 K2 p1 p2 p3 p4 hlow n9 b3 K15
      gi_wp2
      refine ⟨by simp, .inl ⟨_, _, rfl, run_takeDeferred P1.out, ?_⟩⟩
      refine ⟨by simp, .inl ⟨_, _, rfl, run_takeDeferred P2.out, ?_⟩⟩
      refine ⟨.bool true, ?_, rfl, P4.out⟩
      have p3 := P3.out
      simp [results, Try.f15, go_sem, p3]
    case body2 =>
      rintro l pre y W2 ⟨⟨hbk, hpre⟩, hO⟩ hlt
      rw [toP_len] at hlt
      have hlow : Below w.heap.size w W2 := F15.out.bx.low.trans (hO.below (by omega) (fun k hk e => by omega))
      have F16 : Hid (Fr w W2 (.pointer (some ⟨rb, 0, none⟩)) (.pointer (some ⟨A, 0, none⟩)) (.int .i64 (dp : Int)) w5.heap.size (w5.heap.size + 1) w8.heap.size (.slice a1 rsubs.length c1, .slice a2 rkids.length c2, .slice a3 rkids.length c3) (pre.length : Int) (.slice sa sn sc)) := Lib.hid
        ⟨F15.out.bx.only hO (fun k hk e => by omega), F15.out.n9.only hO (fun e => by have := F15.out.n9.lt; omega), hbk, F15.out.s11.only hO (fun e => by have := F15.out.s11.lt; omega)⟩
      obtain ⟨q, hq⟩ : ∃ q, rkids[pre.length]? = some q := ⟨_, List.getElem?_eq_getElem hlt⟩
      obtain ⟨⟨b, off, ha2, hb, he⟩, ⟨b', off', ha3, hb', he'⟩⟩ := R1.out _ q hq
      subst ha2 ha3
      have hqP := toP_at L hq
      have e0 := (hlow.cell (p := ⟨b, off + pre.length, none⟩) hb).trans he
      have E2 : Hid (∀ W3, Below W2.heap.size W2 W3 → W3.cell? ⟨b', off' + pre.length, none⟩ = some (numV q.2)) := Lib.hid fun W3 h3 => ((below_step hlow h3).cell (p := ⟨b', off' + pre.length, none⟩) hb').trans he'
      have ck := F16.out.i10.at (o := 0) rfl
      have d0 := F16.out.bx.b0.at (o := 0) rfl
      have d9 := F16.out.n9.at (o := 1) rfl
      have d3 := F16.out.bx.b3.at (o := 0) rfl
      have f3 := F16.out.bx.b3.frozen 0
      have hgood := (HC.out.all _ _ HR.out).2
      obtain ⟨hk20, j, hj, hji, yr, hyr, _⟩ := hgood.kid q (List.mem_of_getElem? hq)
      have C16 := Lib.hid (HC.out.below hlow)
      have HP := Lib.hid hpre
      have HQ := Lib.hid hqP
      have HB := Lib.hid hbk
      have HO := Lib.hid hO
      have LW := Lib.hid hlow
      have KU := Lib.hid (kup_toP (show KUp rkids from hgood.kup) L)
      have hge : decide ((rkids.length : Int) ≤ (pre.length : Int)) = false := by simp; omega
      have hge2 : decide (rkids.length ≤ pre.length) = false := by simp; omega
      have hlt2 : (pre.length : Int) < (rkids.length : Int) := by omega
      have hl3 : (pre.length : Int) ≤ 1000000 := by rw [toP_len] at hlen2; omega
      have hwB : w.heap.size ≤ w5.heap.size + 1 := by omega
      obtain ⟨qk, qv⟩ := q
      dsimp only at hj
      subst hj
      obtain ⟨⟨yk, yv⟩, hy⟩ := y
      dsimp only at e0 ⊢
      clear hbk hO hlow he he' hpre hqP hq hgood
      by_cases h1 : yk = qk
      · have hyq := kup_uniq KU.out hy (List.mem_of_getElem? HQ.out) h1
        obtain ⟨rfl, rfl⟩ := Prod.mk.inj hyq
        clear hyq h1
        have hkid : Hid (Calls Try.prog 16 #[.pointer (some ⟨rb, 0, none⟩), keyV yk] W2 fun e w' => e = .returned (ptrV (bAt L (j : Int) : Int)) ∧ Below W2.heap.size W2 w') := Lib.hid (by
          have h1 := nd_Kid _ _ _ _ yk W2 (C16.out.pis HR.out) (by show (toP L rkids).length ≤ _; rw [toP_len]; omega)
          rw [show getE yk (toP L rkids) = some (bAt L (j : Int) : Int) from getE_mem KU.out hy] at h1
          exact h1)
        have hpv : ptrV ((bAt L (j : Int) : Nat) : Int) = Value.pointer (some ⟨yr.b, 0, none⟩) := by rw [bAt_of hyr]; rfl
        rw [hpv] at hkid
        dsimp only
        rw [hpv]
        clear hpv
        have hnq := neq_ptr yr.b
        gi_wp2_with fail
        refine ⟨trivial, (callsIn_wide.2 hkid.out).mono ?_⟩
        rintro e W3 ⟨rfl, hB3⟩
        have F17 := Lib.hid (F16.out.below hB3)
        have B3 := Lib.hid hB3
        have z3 := hB3.size
        have ck := F17.out.i10.at (o := 0) rfl
        have fk := F17.out.i10.frozen 0
        have e1 : W3.cell? ⟨b', off' + pre.length, none⟩ = some (.int .i64 (j : Int)) := E2.out W3 hB3
        have d1 := F17.out.bx.b1.at (o := 0) rfl
        have d2 := F17.out.bx.b2.at (o := 0) rfl
        have d9 := F17.out.n9.at (o := 2) rfl
        clear hB3
        have HPS : Hid (pre.map Subtype.val ++ [(yk, (bAt L (j : Int) : Int))] <+: toP L rkids) := Lib.hid (pre_snoc HP.out (by rw [List.length_map]; exact HQ.out))
        have hC : Below W3.heap.size W3 W3.drew := (Below.refl _ _).drew
        clear e1 d1 d2 d9 ck fk hkid
        cases dp with
        | zero =>
          have SY : Hid (∀ c, Below W3.heap.size W3 c → (c.cell? ⟨w.heap.size + 1 + 1, 0, none⟩ = some (.int .i64 0) ∧ c.cell? ⟨w.heap.size + 1, 0, none⟩ = some (.pointer (some ⟨A, 0, none⟩)) ∧ c.cell? ⟨w5.heap.size, 1 + 1, none⟩ = some (.slice (some ⟨b', off', none⟩) rkids.length c3) ∧
              c.cell? ⟨w5.heap.size + 1, 0, none⟩ = some (.int .i64 (pre.length : Int)) ∧ c.cell? ⟨b', off' + pre.length, none⟩ = some (.int .i64 (j : Int)))) := Lib.hid fun c hc =>
            ⟨by have := (F17.out.bx.b2.below hc F17.out.bx.b2.lt).at (o := 0) rfl; skip; exact this, (F17.out.bx.b1.below hc F17.out.bx.b1.lt).at (o := 0) rfl, (F17.out.n9.below hc F17.out.n9.lt).at (o := 2) rfl, (F17.out.i10.below hc F17.out.i10.lt).at (o := 0) rfl, E2.out c (below_step B3.out hc)⟩
          gi_wp2_with fail
          refine wpIn_region_held_round (S := (fun w' => w'.cell? ⟨w.heap.size + 1 + 1, 0, none⟩ = some (.int .i64 0) ∧ w'.cell? ⟨w.heap.size + 1, 0, none⟩ = some (.pointer (some ⟨A, 0, none⟩)) ∧ w'.cell? ⟨w5.heap.size, 1 + 1, none⟩ = some (.slice (some ⟨b', off', none⟩) rkids.length c3) ∧ w'.cell? ⟨w5.heap.size + 1, 0, none⟩ = some (.int .i64 (pre.length : Int)) ∧ w'.cell? ⟨b', off' + pre.length, none⟩ = some (.int .i64 (j : Int)))) (by kernel_rfl) (by kernel_rfl) (fun ⟨_, _, h⟩ => h) (SY.out _ hC) (fun hHeld => ?_)
          refine wpAnyH_take (i := 0) (oi := ⟨some 92, _, _, _, _, _⟩) (v := ?_) rfl (by kernel_rfl) (by kernel_rfl) (by kernel_rfl) (fun _ _ _ h => h) (Or.inl ⟨by rfl, ?_⟩) (by assumption) ?_
          rotate_left
          · (intro w hSw; (try dsimp only at hSw); go_simp; try with_reducible rfl)
          try simp only [Act.put, List.setIfInBounds_toArray, List.set_cons_zero, List.set_cons_succ]
          refine wpAnyH_take (i := 1) (oi := ⟨some 93, _, _, _, _, _⟩) (v := ?_) rfl (by kernel_rfl) (by kernel_rfl) (by kernel_rfl) (fun _ _ _ h => h) (Or.inl ⟨by rfl, ?_⟩) (by assumption) ?_
          rotate_left
          · (intro w hSw; (try dsimp only at hSw); go_simp; try with_reducible rfl)
          try simp only [Act.put, List.setIfInBounds_toArray, List.set_cons_zero, List.set_cons_succ]
          refine wpAnyH_take (i := 2) (oi := ⟨some 94, _, _, _, _, _⟩) (v := ?_) rfl (by kernel_rfl) (by kernel_rfl) (by kernel_rfl) (fun _ _ _ h => h) (Or.inl ⟨by rfl, ?_⟩) (by assumption) ?_
          rotate_left
          · (intro w hSw; (try dsimp only at hSw); go_simp; try with_reducible rfl)
          try simp only [Act.put, List.setIfInBounds_toArray, List.set_cons_zero, List.set_cons_succ]
          refine wpAnyH_take (i := 3) (oi := ⟨some 95, _, _, _, _, _⟩) (v := undef) rfl (by kernel_rfl) (by kernel_rfl) (by kernel_rfl) (fun _ _ _ h => h) (Or.inr ⟨by rfl, rfl⟩) (by assumption) ?_
          try simp only [Act.put, List.setIfInBounds_toArray, List.set_cons_zero, List.set_cons_succ]
          refine wpAnyH_take (i := 4) (oi := ⟨some 96, _, _, _, _, _⟩) (v := undef) rfl (by kernel_rfl) (by kernel_rfl) (by kernel_rfl) (fun _ _ _ h => h) (Or.inr ⟨by rfl, rfl⟩) (by assumption) ?_
          try simp only [Act.put, List.setIfInBounds_toArray, List.set_cons_zero, List.set_cons_succ]
          refine wpAnyH_take (i := 5) (oi := ⟨some 97, _, _, _, _, _⟩) (v := undef) rfl (by kernel_rfl) (by kernel_rfl) (by kernel_rfl) (fun _ _ _ h => h) (Or.inr ⟨by rfl, rfl⟩) (by assumption) ?_
          try simp only [Act.put, List.setIfInBounds_toArray, List.set_cons_zero, List.set_cons_succ]
          refine wpAnyH_take (i := 6) (oi := ⟨some 98, _, _, _, _, _⟩) (v := undef) rfl (by kernel_rfl) (by kernel_rfl) (by kernel_rfl) (fun _ _ _ h => h) (Or.inr ⟨by rfl, rfl⟩) (by assumption) ?_
          try simp only [Act.put, List.setIfInBounds_toArray, List.set_cons_zero, List.set_cons_succ]
          refine wpAnyH_take (i := 7) (oi := ⟨some 99, _, _, _, _, _⟩) (v := undef) rfl (by kernel_rfl) (by kernel_rfl) (by kernel_rfl) (fun _ _ _ h => h) (Or.inr ⟨by rfl, rfl⟩) (by assumption) ?_
          try simp only [Act.put, List.setIfInBounds_toArray, List.set_cons_zero, List.set_cons_succ]
          refine wpAnyH_take (i := 8) (oi := ⟨some 100, _, _, _, _, _⟩) (v := undef) rfl (by kernel_rfl) (by kernel_rfl) (by kernel_rfl) (fun _ _ _ h => h) (Or.inr ⟨by rfl, rfl⟩) (by assumption) ?_
          try simp only [Act.put, List.setIfInBounds_toArray, List.set_cons_zero, List.set_cons_succ]
          refine wpAnyH_take (i := 9) (oi := ⟨some 101, _, _, _, _, _⟩) (v := undef) rfl (by kernel_rfl) (by kernel_rfl) (by kernel_rfl) (fun _ _ _ h => h) (Or.inr ⟨by rfl, rfl⟩) (by assumption) ?_
          try simp only [Act.put, List.setIfInBounds_toArray, List.set_cons_zero, List.set_cons_succ]
          refine wpAnyH_take (i := 10) (oi := ⟨some 102, _, _, _, _, _⟩) (v := undef) rfl (by kernel_rfl) (by kernel_rfl) (by kernel_rfl) (fun _ _ _ h => h) (Or.inr ⟨by rfl, rfl⟩) (by assumption) ?_
          try simp only [Act.put, List.setIfInBounds_toArray, List.set_cons_zero, List.set_cons_succ]
          refine wpAnyH_take (i := 11) (oi := ⟨some 103, _, _, _, _, _⟩) (v := undef) rfl (by kernel_rfl) (by kernel_rfl) (by kernel_rfl) (fun _ _ _ h => h) (Or.inr ⟨by rfl, rfl⟩) (by assumption) ?_
          try simp only [Act.put, List.setIfInBounds_toArray, List.set_cons_zero, List.set_cons_succ]
          refine wpAnyH_take (i := 12) (oi := ⟨some 104, _, _, _, _, _⟩) (v := undef) rfl (by kernel_rfl) (by kernel_rfl) (by kernel_rfl) (fun _ _ _ h => h) (Or.inr ⟨by rfl, rfl⟩) (by assumption) ?_
          try simp only [Act.put, List.setIfInBounds_toArray, List.set_cons_zero, List.set_cons_succ]
          refine wpAnyH_take (i := 13) (oi := ⟨some 105, _, _, _, _, _⟩) (v := undef) rfl (by kernel_rfl) (by kernel_rfl) (by kernel_rfl) (fun _ _ _ h => h) (Or.inr ⟨by rfl, rfl⟩) (by assumption) ?_
          try simp only [Act.put, List.setIfInBounds_toArray, List.set_cons_zero, List.set_cons_succ]
          refine wpAnyH_take (i := 14) (oi := ⟨some 106, _, _, _, _, _⟩) (v := undef) rfl (by kernel_rfl) (by kernel_rfl) (by kernel_rfl) (fun _ _ _ h => h) (Or.inr ⟨by rfl, rfl⟩) (by assumption) ?_
          try simp only [Act.put, List.setIfInBounds_toArray, List.set_cons_zero, List.set_cons_succ]
          refine wpAnyH_take (i := 15) (oi := ⟨some 107, _, _, _, _, _⟩) (v := ?_) rfl (by kernel_rfl) (by kernel_rfl) (by kernel_rfl) (fun _ _ _ h => h) (Or.inl ⟨by rfl, ?_⟩) (by assumption) ?_
          rotate_left
          · (intro w hSw; (try dsimp only at hSw); go_simp; try with_reducible rfl)
          try simp only [Act.put, List.setIfInBounds_toArray, List.set_cons_zero, List.set_cons_succ]
          refine wpAnyH_done (by kernel_rfl) ?_ _
          have ck := F17.out.i10.at (o := 0) rfl
          have fk := F17.out.i10.frozen 0
          have BW := Lib.hid (below_step B3.out hC)
          clear hHeld hC
          gi_wp2
          obtain ⟨q1, q2, q3, q4⟩ := keep_end (u := .int .i64 ((pre.length : Int) + 1)) (u' := .int .i64 (((pre ++ [⟨(yk, (bAt L (j : Int) : Int)), hy⟩] : List { p : Ent // p ∈ toP L rkids }).length : Nat) : Int)) W15.heap.size (by simp) HO.out BW.out HB.out HOF.out hwB
          exact ⟨q1, q2, ⟨q3, by simpa using HPS.out⟩, q4⟩
        | succ d' =>
          have HS : Hid (∀ c, Below W3.heap.size W3 c → Calls Try.prog 15 #[.pointer (some ⟨yr.b, 0, none⟩), .pointer (some ⟨A, 0, none⟩), .int .i64 (j : Int), .int .i64 (d' : Int)] c fun e w' => e = .returned (.bool true) ∧ Below c.heap.size c w') := Lib.hid fun c hc =>
            HI.out d' (by omega) c lo A v L j yr (C16.out.below (below_step B3.out hc)) hyr HL.out
          have hd2 : (d' : Int) ≤ 2 := by omega
          have hd3 : (0 : Int) < (d' : Int) + 1 := by omega
          have SY : Hid (∀ c, Below W3.heap.size W3 c → (c.cell? ⟨w.heap.size + 1 + 1, 0, none⟩ = some (.int .i64 ((d' : Int) + 1)) ∧ c.cell? ⟨w.heap.size + 1, 0, none⟩ = some (.pointer (some ⟨A, 0, none⟩)) ∧ c.cell? ⟨w5.heap.size, 1 + 1, none⟩ = some (.slice (some ⟨b', off', none⟩) rkids.length c3) ∧
              c.cell? ⟨w5.heap.size + 1, 0, none⟩ = some (.int .i64 (pre.length : Int)) ∧ c.cell? ⟨b', off' + pre.length, none⟩ = some (.int .i64 (j : Int)))) := Lib.hid fun c hc =>
            ⟨by have := (F17.out.bx.b2.below hc F17.out.bx.b2.lt).at (o := 0) rfl; rw [show ((d' + 1 : Nat) : Int) = (d' : Int) + 1 by omega] at this; exact this, (F17.out.bx.b1.below hc F17.out.bx.b1.lt).at (o := 0) rfl, (F17.out.n9.below hc F17.out.n9.lt).at (o := 2) rfl, (F17.out.i10.below hc F17.out.i10.lt).at (o := 0) rfl, E2.out c (below_step B3.out hc)⟩
          gi_wp2_with fail
          refine wpIn_region_held_round (S := (fun w' => w'.cell? ⟨w.heap.size + 1 + 1, 0, none⟩ = some (.int .i64 ((d' : Int) + 1)) ∧ w'.cell? ⟨w.heap.size + 1, 0, none⟩ = some (.pointer (some ⟨A, 0, none⟩)) ∧ w'.cell? ⟨w5.heap.size, 1 + 1, none⟩ = some (.slice (some ⟨b', off', none⟩) rkids.length c3) ∧ w'.cell? ⟨w5.heap.size + 1, 0, none⟩ = some (.int .i64 (pre.length : Int)) ∧ w'.cell? ⟨b', off' + pre.length, none⟩ = some (.int .i64 (j : Int)))) (by kernel_rfl) (by kernel_rfl) (fun ⟨_, _, h⟩ => h) (SY.out _ hC) (fun hHeld => ?_)
          refine wpAnyH_take (i := 0) (oi := ⟨some 92, _, _, _, _, _⟩) (v := ?_) rfl (by kernel_rfl) (by kernel_rfl) (by kernel_rfl) (fun _ _ _ h => h) (Or.inl ⟨by rfl, ?_⟩) (by assumption) ?_
          rotate_left
          · (intro w hSw; (try dsimp only at hSw); go_simp; try with_reducible rfl)
          try simp only [Act.put, List.setIfInBounds_toArray, List.set_cons_zero, List.set_cons_succ]
          refine wpAnyH_take (i := 1) (oi := ⟨some 93, _, _, _, _, _⟩) (v := ?_) rfl (by kernel_rfl) (by kernel_rfl) (by kernel_rfl) (fun _ _ _ h => h) (Or.inl ⟨by rfl, ?_⟩) (by assumption) ?_
          rotate_left
          · (intro w hSw; (try dsimp only at hSw); go_simp; try with_reducible rfl)
          try simp only [Act.put, List.setIfInBounds_toArray, List.set_cons_zero, List.set_cons_succ]
          refine wpAnyH_take (i := 2) (oi := ⟨some 94, _, _, _, _, _⟩) (v := ?_) rfl (by kernel_rfl) (by kernel_rfl) (by kernel_rfl) (fun _ _ _ h => h) (Or.inl ⟨by rfl, ?_⟩) (by assumption) ?_
          rotate_left
          · (intro w hSw; (try dsimp only at hSw); go_simp; try with_reducible rfl)
          try simp only [Act.put, List.setIfInBounds_toArray, List.set_cons_zero, List.set_cons_succ]
          refine wpAnyH_take (i := 3) (oi := ⟨some 95, _, _, _, _, _⟩) (v := ?_) rfl (by kernel_rfl) (by kernel_rfl) (by kernel_rfl) (fun _ _ _ h => h) (Or.inl ⟨by rfl, ?_⟩) (by assumption) ?_
          rotate_left
          · (intro w hSw; (try dsimp only at hSw); go_simp; try with_reducible rfl)
          try simp only [Act.put, List.setIfInBounds_toArray, List.set_cons_zero, List.set_cons_succ]
          refine wpAnyH_take (i := 4) (oi := ⟨some 96, _, _, _, _, _⟩) (v := ?_) rfl (by kernel_rfl) (by kernel_rfl) (by kernel_rfl) (fun _ _ _ h => h) (Or.inl ⟨by rfl, ?_⟩) (by assumption) ?_
          rotate_left
          · (intro w hSw; (try dsimp only at hSw); go_simp; try with_reducible rfl)
          try simp only [Act.put, List.setIfInBounds_toArray, List.set_cons_zero, List.set_cons_succ]
          refine wpAnyH_take (i := 5) (oi := ⟨some 97, _, _, _, _, _⟩) (v := ?_) rfl (by kernel_rfl) (by kernel_rfl) (by kernel_rfl) (fun _ _ _ h => h) (Or.inl ⟨by rfl, ?_⟩) (by assumption) ?_
          rotate_left
          · (intro w hSw; (try dsimp only at hSw); go_simp; try with_reducible rfl)
          try simp only [Act.put, List.setIfInBounds_toArray, List.set_cons_zero, List.set_cons_succ]
          refine wpAnyH_take (i := 6) (oi := ⟨some 98, _, _, _, _, _⟩) (v := ?_) rfl (by kernel_rfl) (by kernel_rfl) (by kernel_rfl) (fun _ _ _ h => h) (Or.inl ⟨by rfl, ?_⟩) (by assumption) ?_
          rotate_left
          · (intro w hSw; (try dsimp only at hSw); go_simp; try with_reducible rfl)
          try simp only [Act.put, List.setIfInBounds_toArray, List.set_cons_zero, List.set_cons_succ]
          refine wpAnyH_take (i := 7) (oi := ⟨some 99, _, _, _, _, _⟩) (v := ?_) rfl (by kernel_rfl) (by kernel_rfl) (by kernel_rfl) (fun _ _ _ h => h) (Or.inl ⟨by rfl, ?_⟩) (by assumption) ?_
          rotate_left
          · (intro w hSw; (try dsimp only at hSw); go_simp; try with_reducible rfl)
          try simp only [Act.put, List.setIfInBounds_toArray, List.set_cons_zero, List.set_cons_succ]
          refine wpAnyH_take (i := 8) (oi := ⟨some 100, _, _, _, _, _⟩) (v := ?_) rfl (by kernel_rfl) (by kernel_rfl) (by kernel_rfl) (fun _ _ _ h => h) (Or.inl ⟨by rfl, ?_⟩) (by assumption) ?_
          rotate_left
          · (intro w hSw; (try dsimp only at hSw); go_simp; try with_reducible rfl)
          try simp only [Act.put, List.setIfInBounds_toArray, List.set_cons_zero, List.set_cons_succ]
          refine wpAnyH_take (i := 9) (oi := ⟨some 101, _, _, _, _, _⟩) (v := ?_) rfl (by kernel_rfl) (by kernel_rfl) (by kernel_rfl) (fun _ _ _ h => h) (Or.inl ⟨by rfl, ?_⟩) (by assumption) ?_
          rotate_left
          · (intro w hSw; (try dsimp only at hSw); go_simp; try with_reducible rfl)
          try simp only [Act.put, List.setIfInBounds_toArray, List.set_cons_zero, List.set_cons_succ]
          refine wpAnyH_take (i := 10) (oi := ⟨some 102, _, _, _, _, _⟩) (v := ?_) rfl (by kernel_rfl) (by kernel_rfl) (by kernel_rfl) (fun _ _ _ h => h) (Or.inl ⟨by rfl, ?_⟩) (by assumption) ?_
          rotate_left
          · (intro w hSw; (try dsimp only at hSw); go_simp; try with_reducible rfl)
          try simp only [Act.put, List.setIfInBounds_toArray, List.set_cons_zero, List.set_cons_succ]
          refine wpAnyH_take (i := 11) (oi := ⟨some 103, _, _, _, _, _⟩) (v := ?_) rfl (by kernel_rfl) (by kernel_rfl) (by kernel_rfl) (fun _ _ _ h => h) (Or.inl ⟨by rfl, ?_⟩) (by assumption) ?_
          rotate_left
          · (intro w hSw; (try dsimp only at hSw); go_simp; try with_reducible rfl)
          try simp only [Act.put, List.setIfInBounds_toArray, List.set_cons_zero, List.set_cons_succ]
          refine wpAnyH_take (i := 12) (oi := ⟨some 104, _, _, _, _, _⟩) (v := ?_) rfl (by kernel_rfl) (by kernel_rfl) (by kernel_rfl) (fun _ _ _ h => h) (Or.inl ⟨by rfl, ?_⟩) (by assumption) ?_
          rotate_left
          · (intro w hSw; (try dsimp only at hSw); go_simp; try with_reducible rfl)
          try simp only [Act.put, List.setIfInBounds_toArray, List.set_cons_zero, List.set_cons_succ]
          refine wpAnyH_ready (rs := [13]) (by kernel_rfl) (by simp) ?_
          refine AllReadyH.cons (o := ⟨some 105, _, _, _, _, _⟩) rfl (fun K hK => ?_) AllReadyH.nil
          go_simp
          rw [show IntKind.i64.wrap (d' : Int) = (d' : Int) from IntWalk.i64_in _ (by omega)]
          refine (HS.out _ hC).mono ?_
          rintro e w9 ⟨rfl, hB9⟩
          replace hC := below_step hC hB9
          clear hB9
          go_wp2_with fail
          refine hK.out _ _ ?_ (fun hHeldX => ?_)
          · exact SY.out _ hC
          clear hK K hHeld
          rename _ => hHeld
          try simp only [Act.put, List.setIfInBounds_toArray, List.set_cons_zero, List.set_cons_succ]
          refine wpAnyH_take (i := 14) (oi := ⟨some 106, _, _, _, _, _⟩) (v := ?_) rfl (by kernel_rfl) (by kernel_rfl) (by kernel_rfl) (fun _ _ _ h => h) (Or.inl ⟨by rfl, ?_⟩) (by assumption) ?_
          rotate_left
          · (intro w hSw; (try dsimp only at hSw); go_simp; try with_reducible rfl)
          try simp only [Act.put, List.setIfInBounds_toArray, List.set_cons_zero, List.set_cons_succ]
          refine wpAnyH_take (i := 15) (oi := ⟨some 107, _, _, _, _, _⟩) (v := ?_) rfl (by kernel_rfl) (by kernel_rfl) (by kernel_rfl) (fun _ _ _ h => h) (Or.inl ⟨by rfl, ?_⟩) (by assumption) ?_
          rotate_left
          · (intro w hSw; (try dsimp only at hSw); go_simp; try with_reducible rfl)
          try simp only [Act.put, List.setIfInBounds_toArray, List.set_cons_zero, List.set_cons_succ]
          refine wpAnyH_done (by kernel_rfl) ?_ _
          have F18 := Lib.hid (F17.out.below hC)
          have ck := F18.out.i10.at (o := 0) rfl
          have fk := F18.out.i10.frozen 0
          have BW := Lib.hid (below_step B3.out hC)
          clear hHeld hC
          gi_wp2
          obtain ⟨q1, q2, q3, q4⟩ := keep_end (u := .int .i64 ((pre.length : Int) + 1)) (u' := .int .i64 (((pre ++ [⟨(yk, (bAt L (j : Int) : Int)), hy⟩] : List { p : Ent // p ∈ toP L rkids }).length : Nat) : Int)) W15.heap.size (by simp) HO.out BW.out HB.out HOF.out hwB
          exact ⟨q1, q2, ⟨q3, by simpa using HPS.out⟩, q4⟩
      · have h3 : (yk == qk) = false := by simpa using h1
        have h4 : (yk != qk) = true := by simpa using h1
        have H1 := Lib.hid h1
        clear h1
        gi_wp2
        refine ⟨trivial, ?_⟩
        gi_wp2
        refine ⟨(KeepsOthers.setCell _ _ _).from _, fun hh => ?_⟩
        have hh : pre.map Subtype.val ++ [(yk, yv)] <+: toP L rkids := by simpa using hh
        have := pre_at hh
        rw [List.length_map, HQ.out] at this
        cases this
        exact H1.out rfl

theorem same12 {S : Nat → Prop} (dp : Nat) : dp ≤ 2 → ∀ (w : World) (lo A : Nat) (v : Value) (L : List NdR) (i : Nat) (r : NdR), Core S w lo A v L → L[i]? = some r → L.length ≤ 100 →
      Calls Try.prog 15 #[.pointer (some ⟨r.b, 0, none⟩), .pointer (some ⟨A, 0, none⟩), .int .i64 (i : Int), .int .i64 (dp : Int)] w fun e w' => e = .returned (.bool true) ∧ Below w.heap.size w w' := by
  induction dp using Nat.strongRecOn with
  | ind dp ih => exact fun hd w lo A v L i r h1 h2 h3 => law_same12 dp (fun d' hd' => ih d' hd' (by omega)) w lo A v L i r h1 h2 h3 hd

end Go.Proofs.Yteigkomefehpjaa
