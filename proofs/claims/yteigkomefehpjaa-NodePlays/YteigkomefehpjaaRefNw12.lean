/- Layer 12: the document's list of nodes (bellmanref12): With, Without, Kid. -/
import Derived.Test.YteigkomefehpjaaRefNd12
namespace Go.Proofs.Yteigkomefehpjaa
open Go.RowKit

theorem FreshV.off {n : Nat} {S : Nat → Prop} {v : Value} (h : FreshV n v) (hS : ∀ k, n ≤ k → ¬ S k) : Off S v := fun g off m c he hg => hS g (h g off m c he) hg
theorem refIn_only {w w' : World} {S : Nat → Prop} {ks vs : Value} {E : List Ent} (h : RefIn w (.agg #[ks, vs]) E) (ho : Only S w w') (h1 : Off S ks) (h2 : Off S vs) : RefIn w' (.agg #[ks, vs]) E := by
  obtain ⟨ka, kc, va, vc, he, r1, r2⟩ := h
  cases he
  exact ⟨ka, kc, va, vc, rfl, sliceK_only r1 ho h1, sliceK_only r2 ho h2⟩
theorem refIn_slices {w : World} {ks vs : Value} {E : List Ent} (h : RefIn w (.agg #[ks, vs]) E) : SliceK w 1 ks E.length (E.map fun p => keyV p.1) ∧ SliceK w 1 vs E.length (E.map fun p => numV p.2) := by
  obtain ⟨ka, kc, va, vc, he, r1, r2⟩ := h
  cases he
  exact ⟨r1, r2⟩
theorem refIn_form {w : World} {ks vs : Value} {E : List Ent} (h : RefIn w (.agg #[ks, vs]) E) : ∃ ka kc va vc, ks = .slice ka E.length kc ∧ vs = .slice va E.length vc := by
  obtain ⟨ka, kc, va, vc, he, _⟩ := h
  cases he
  exact ⟨ka, kc, va, vc, rfl, rfl⟩
section
variable {w : World} {lo A : Nat} {v : Value} {C : List Tri}

set_option maxRecDepth 100000 in
set_option maxHeartbeats 2000000 in
theorem ref_AWith (h : RRow w lo A v C) (hlo : lo ≤ w.heap.size) (hbig : C.length ≤ 100000) (k sub : Int) (c : Tri) (hc : ownT C k = c) (hok : TriOk c) (L : List Int) (hL : NumsIn w c.1 L) (hLb : L.length ≤ 1000000) :
    Calls Try.prog 8 #[.pointer (some ⟨A, 0, none⟩), .int .i64 k, .int .i64 sub] w fun e w' => e = .returned (.int .i64 (C.length : Int)) ∧
      ∃ v' u', RRow w' lo A v' (C ++ [(u', c.2.1, c.2.2)]) ∧ NumsIn w' u' (withZ sub L) ∧ FreshV w.heap.size u' ∧ Off (RB A v') u' ∧ RNew w.heap.size v v' ∧ Only (RB A v) w w' := by
  obtain ⟨a1, n1, c1, a2, n2, c2, a3, n3, c3, rfl⟩ := hok
  have H := Lib.hid h
  have HO := Lib.hid (ref_Own h k)
  rw [hc] at HO
  have HL := Lib.hid hL
  clear h hc hL
  go_enter Try.func8, Try.ntmps8
  go_wp2_with fail
  refine HO.out.mono ?_
  rintro e w1 ⟨rfl, hB1⟩
  have B1 := Lib.hid hB1
  have z1 := hB1.size
  clear hB1
  rw [show triA (Value.slice a1 n1 c1, Value.slice a2 n2 c2, Value.slice a3 n3 c3) = Value.agg #[.slice a1 n1 c1, .slice a2 n2 c2, .slice a3 n3 c3] from rfl]
  go_wp2_with fail
  obtain ⟨W2, hW2⟩ : ∃ W, W = w1.alloc (.cells #[.slice a1 n1 c1, .slice a2 n2 c2, .slice a3 n3 c3] 63) := ⟨_, rfl⟩
  have hb2 : Blk 63 W2 w1.heap.size [.slice a1 n1 c1, .slice a2 n2 c2, .slice a3 n3 c3] := by rw [hW2]; exact Blk.new
  have B2 : Hid (Below w.heap.size w W2) := Lib.hid (by rw [hW2]; exact below_step B1.out (new_below _ _))
  have z2 : W2.heap.size = w1.heap.size + 1 := by rw [hW2]; simp
  rw [← hW2]
  clear hW2
  refine (ref_With0 _ L sub W2 (HL.out.below B2.out) hLb).mono ?_
  rintro e w3 ⟨u, rfl, ⟨hu, hf⟩, hB3⟩
  obtain ⟨ua, uc, rfl, _⟩ := hu.form
  have hb3 := hb2.below hB3 hb2.lt
  have k0 := hb3.at (o := 0) rfl
  have k1 := hb3.at (o := 1) rfl
  have k2 := hb3.at (o := 2) rfl
  have f0 := hb3.frozen 0
  have HB3 := Lib.hid hb3
  have HU := Lib.hid hu
  have HF := Lib.hid hf
  have B3 := Lib.hid (below_step B2.out hB3)
  clear hb2 hb3 hu hf hB3
  go_wp2_with fail
  have hoff : Off (fun i => i = w1.heap.size) (.slice ua (withZ sub L).length uc) := HF.out.off (fun i hi e => by omega)
  have hu4 := sliceK_only HU.out (only_at w3 w1.heap.size 0 (.slice ua (withZ sub L).length uc)) hoff
  have B4 : Hid (Below w.heap.size w (w3.setCell ⟨w1.heap.size, 0, none⟩ (.slice ua (withZ sub L).length uc))) := Lib.hid (B3.out.setCell (p := ⟨w1.heap.size, 0, none⟩) z1 _)
  have hR4 := H.out.below B4.out
  have z4 := B4.out.size
  refine (ref_add hR4 (by omega) hbig (.slice ua (withZ sub L).length uc, .slice a2 n2 c2, .slice a3 n3 c3) ⟨_, _, _, _, _, _, _, _, _, rfl⟩).mono ?_
  rintro e w5 ⟨rfl, v', h5, hn5, ho5⟩
  have HE : Hid (RRow w5 lo A v' (C ++ [(.slice ua (withZ sub L).length uc, .slice a2 n2 c2, .slice a3 n3 c3)]) ∧ NumsIn w5 (.slice ua (withZ sub L).length uc) (withZ sub L) ∧ FreshV w.heap.size (.slice ua (withZ sub L).length uc) ∧ Off (RB A v') (.slice ua (withZ sub L).length uc) ∧ RNew w.heap.size v v' ∧ Only (RB A v) w w5) := Lib.hid
    ⟨h5, sliceK_only hu4 ho5 (HF.out.off (fun i hi e => by have := H.out.lt e; omega)), HF.out.mono (by omega), (HF.out.off (S := RB A v) (fun i hi e => by have := H.out.lt e; omega)).turn hu4 (fun i hi e => e.elim .inl (fun e => (hn5 i e).elim .inr (fun e => by omega))), fun i hi => (hn5 i hi).imp id (fun e => by omega), (Only.of_below B4.out _).trans ho5⟩
  clear h5 hn5 ho5 hu4 hoff hR4
  go_wp2
  go_ret
  exact ⟨rfl, _, _, HE.out⟩

set_option maxRecDepth 100000 in
set_option maxHeartbeats 2000000 in
theorem ref_AWithout (h : RRow w lo A v C) (hlo : lo ≤ w.heap.size) (hbig : C.length ≤ 100000) (k sub : Int) (c : Tri) (hc : ownT C k = c) (hok : TriOk c) (L : List Int) (hL : NumsIn w c.1 L) (hLb : L.length ≤ 1000000) :
    Calls Try.prog 10 #[.pointer (some ⟨A, 0, none⟩), .int .i64 k, .int .i64 sub] w fun e w' => e = .returned (.int .i64 (C.length : Int)) ∧
      ∃ v' u', RRow w' lo A v' (C ++ [(u', c.2.1, c.2.2)]) ∧ NumsIn w' u' (woZ sub L) ∧ FreshV w.heap.size u' ∧ Off (RB A v') u' ∧ RNew w.heap.size v v' ∧ Only (RB A v) w w' := by
  obtain ⟨a1, n1, c1, a2, n2, c2, a3, n3, c3, rfl⟩ := hok
  have H := Lib.hid h
  have HO := Lib.hid (ref_Own h k)
  rw [hc] at HO
  have HL := Lib.hid hL
  clear h hc hL
  go_enter Try.func10, Try.ntmps10
  go_wp2_with fail
  refine HO.out.mono ?_
  rintro e w1 ⟨rfl, hB1⟩
  have B1 := Lib.hid hB1
  have z1 := hB1.size
  clear hB1
  rw [show triA (Value.slice a1 n1 c1, Value.slice a2 n2 c2, Value.slice a3 n3 c3) = Value.agg #[.slice a1 n1 c1, .slice a2 n2 c2, .slice a3 n3 c3] from rfl]
  go_wp2_with fail
  obtain ⟨W2, hW2⟩ : ∃ W, W = w1.alloc (.cells #[.slice a1 n1 c1, .slice a2 n2 c2, .slice a3 n3 c3] 63) := ⟨_, rfl⟩
  have hb2 : Blk 63 W2 w1.heap.size [.slice a1 n1 c1, .slice a2 n2 c2, .slice a3 n3 c3] := by rw [hW2]; exact Blk.new
  have B2 : Hid (Below w.heap.size w W2) := Lib.hid (by rw [hW2]; exact below_step B1.out (new_below _ _))
  have z2 : W2.heap.size = w1.heap.size + 1 := by rw [hW2]; simp
  rw [← hW2]
  clear hW2
  refine (ref_Without0 _ L sub W2 (HL.out.below B2.out) hLb).mono ?_
  rintro e w3 ⟨u, rfl, ⟨hu, hf⟩, hB3⟩
  obtain ⟨ua, uc, rfl, _⟩ := hu.form
  have hb3 := hb2.below hB3 hb2.lt
  have k0 := hb3.at (o := 0) rfl
  have k1 := hb3.at (o := 1) rfl
  have k2 := hb3.at (o := 2) rfl
  have f0 := hb3.frozen 0
  have HB3 := Lib.hid hb3
  have HU := Lib.hid hu
  have HF := Lib.hid hf
  have B3 := Lib.hid (below_step B2.out hB3)
  clear hb2 hb3 hu hf hB3
  go_wp2_with fail
  have hoff : Off (fun i => i = w1.heap.size) (.slice ua (woZ sub L).length uc) := HF.out.off (fun i hi e => by omega)
  have hu4 := sliceK_only HU.out (only_at w3 w1.heap.size 0 (.slice ua (woZ sub L).length uc)) hoff
  have B4 : Hid (Below w.heap.size w (w3.setCell ⟨w1.heap.size, 0, none⟩ (.slice ua (woZ sub L).length uc))) := Lib.hid (B3.out.setCell (p := ⟨w1.heap.size, 0, none⟩) z1 _)
  have hR4 := H.out.below B4.out
  have z4 := B4.out.size
  refine (ref_add hR4 (by omega) hbig (.slice ua (woZ sub L).length uc, .slice a2 n2 c2, .slice a3 n3 c3) ⟨_, _, _, _, _, _, _, _, _, rfl⟩).mono ?_
  rintro e w5 ⟨rfl, v', h5, hn5, ho5⟩
  have HE : Hid (RRow w5 lo A v' (C ++ [(.slice ua (woZ sub L).length uc, .slice a2 n2 c2, .slice a3 n3 c3)]) ∧ NumsIn w5 (.slice ua (woZ sub L).length uc) (woZ sub L) ∧ FreshV w.heap.size (.slice ua (woZ sub L).length uc) ∧ Off (RB A v') (.slice ua (woZ sub L).length uc) ∧ RNew w.heap.size v v' ∧ Only (RB A v) w w5) := Lib.hid
    ⟨h5, sliceK_only hu4 ho5 (HF.out.off (fun i hi e => by have := H.out.lt e; omega)), HF.out.mono (by omega), (HF.out.off (S := RB A v) (fun i hi e => by have := H.out.lt e; omega)).turn hu4 (fun i hi e => e.elim .inl (fun e => (hn5 i e).elim .inr (fun e => by omega))), fun i hi => (hn5 i hi).imp id (fun e => by omega), (Only.of_below B4.out _).trans ho5⟩
  clear h5 hn5 ho5 hu4 hoff hR4
  go_wp2
  go_ret
  exact ⟨rfl, _, _, HE.out⟩

set_option maxRecDepth 100000 in
set_option maxHeartbeats 4000000 in
theorem ref_AKid (h : RRow w lo A v C) (hlo : lo ≤ w.heap.size) (hbig : C.length ≤ 100000) (k m : Int) (key : Key) (c d : Tri) (hc : ownT C k = c) (hok : TriOk c) (hd : ownT C m = d) (hdk : TriOk d) (E : List Ent) (hE : RefIn w (.agg #[c.2.1, c.2.2]) E) (hEb : E.length ≤ 10000) (hkl : ∀ p ∈ E, p.1.length ≤ 1000000)
    (Ld : List Int) (Ed : List Ent) (hLd : NumsIn w d.1 Ld) (hEd : RefIn w (.agg #[d.2.1, d.2.2]) Ed) (E' : List Ent) (hE' : ((Ld = [] ∧ Ed = []) ∧ E' = dropE key E) ∨ (¬ (Ld = [] ∧ Ed = []) ∧ E' = putE key m E)) :
    Calls Try.prog 12 #[.pointer (some ⟨A, 0, none⟩), .int .i64 k, keyV key, .int .i64 m] w fun e w' => e = .returned (.int .i64 (C.length : Int)) ∧
      ∃ v' ks' vs', RRow w' lo A v' (C ++ [(c.1, ks', vs')]) ∧ RefIn w' (.agg #[ks', vs']) E' ∧ FreshV w.heap.size ks' ∧ FreshV w.heap.size vs' ∧ Off (RB A v') ks' ∧ Off (RB A v') vs' ∧ RNew w.heap.size v v' ∧ Only (RB A v) w w' := by
  obtain ⟨a1, n1, c1, a2, n2, c2, a3, n3, c3, rfl⟩ := hok
  obtain ⟨b1, m1, d1, b2, m2, d2, b3, m3, d3, rfl⟩ := hdk
  obtain ⟨_, _, he, _⟩ := hLd.form
  cases he
  obtain ⟨_, _, _, _, he, he2⟩ := refIn_form hEd
  cases he
  cases he2
  have H := Lib.hid h
  have HO := Lib.hid (ref_Own h k)
  rw [hc] at HO
  have HL := Lib.hid hE
  have HKL := Lib.hid hkl
  have KB : Hid (∀ bare : Bool, (bare = true ↔ Ld = [] ∧ Ed = []) → ∀ W, Below w.heap.size w W → Calls Try.prog 31 #[.pointer (some ⟨A, 0, none⟩), .int .i64 m] W fun e w' => e = .returned (.bool bare) ∧ Below W.heap.size W w') :=
    Lib.hid fun bare hb W hW => ref_Bare (h.below hW) m _ _ _ _ _ _ _ _ _ hd bare (by rw [hb, List.length_eq_zero_iff, List.length_eq_zero_iff])
  clear h hc hE hd hLd hEd hkl
  go_enter Try.func12, Try.ntmps12
  go_wp2_with fail
  refine HO.out.mono ?_
  rintro e w1 ⟨rfl, hB1⟩
  have B1 := Lib.hid hB1
  have z1 := hB1.size
  clear hB1
  rw [show triA (Value.slice a1 n1 c1, Value.slice a2 n2 c2, Value.slice a3 n3 c3) = Value.agg #[.slice a1 n1 c1, .slice a2 n2 c2, .slice a3 n3 c3] from rfl]
  go_wp2_with fail
  obtain ⟨W2, hW2⟩ : ∃ W, W = w1.alloc (.cells #[.slice a1 n1 c1, .slice a2 n2 c2, .slice a3 n3 c3] 63) := ⟨_, rfl⟩
  have hb2 : Blk 63 W2 w1.heap.size [.slice a1 n1 c1, .slice a2 n2 c2, .slice a3 n3 c3] := by rw [hW2]; exact Blk.new
  have B2 : Hid (Below w.heap.size w W2) := Lib.hid (by rw [hW2]; exact below_step B1.out (new_below _ _))
  have z2 : W2.heap.size = w1.heap.size + 1 := by rw [hW2]; simp
  rw [← hW2]
  clear hW2
  rcases hE' with ⟨hbr, e3⟩ | ⟨hbr, e3⟩
  · have H3 := Lib.hid e3
    have hb := KB.out true (by simp [hbr.1, hbr.2]) W2 B2.out
    clear e3 hbr KB
    refine hb.mono ?_
    rintro e w3 ⟨rfl, hB3⟩
    have hb3 := hb2.below hB3 hb2.lt
    have k1 := hb3.at (o := 1) rfl
    have k2 := hb3.at (o := 2) rfl
    have z3 := hB3.size
    have B3 := Lib.hid (below_step B2.out hB3)
    clear hb2 hB3 hb
    go_wp2_with fail
    refine (ref_Drop0 _ E key w3 (HL.out.below B3.out) hEb).mono ?_
    rintro e w4 ⟨r, rfl, ⟨hr, ks', vs', rfl, hf1, hf2⟩, hB4⟩
    rw [← H3.out] at hr
    obtain ⟨pa, pc, qa, qc, rfl, rfl⟩ := refIn_form hr
    have hb4 := hb3.below hB4 hb3.lt
    have k0 := hb4.at (o := 0) rfl
    have k1 := hb4.at (o := 1) rfl
    have k2 := hb4.at (o := 2) rfl
    have g1 := hb4.frozen 1
    have g2 := hb4.frozen 2
    have HU := Lib.hid hr
    have HF1 := Lib.hid hf1
    have HF2 := Lib.hid hf2
    have B4 := Lib.hid (below_step B3.out hB4)
    clear hb3 hb4 hr hf1 hf2 hB4 H3
    go_wp2_with fail
    have o1 : Off (fun i => i = w1.heap.size) (.slice pa E'.length pc) := HF1.out.off (fun i hi e => by omega)
    have o2 : Off (fun i => i = w1.heap.size) (.slice qa E'.length qc) := HF2.out.off (fun i hi e => by omega)
    have hu4 := refIn_only (refIn_only HU.out (only_at w4 w1.heap.size 1 (.slice pa E'.length pc)) o1 o2) (only_at _ w1.heap.size 2 (.slice qa E'.length qc)) o1 o2
    have B5 : Hid (Below w.heap.size w ((w4.setCell ⟨w1.heap.size, 1, none⟩ (.slice pa E'.length pc)).setCell ⟨w1.heap.size, 2, none⟩ (.slice qa E'.length qc))) := Lib.hid ((B4.out.setCell (p := ⟨w1.heap.size, 1, none⟩) z1 _).setCell (p := ⟨w1.heap.size, 2, none⟩) z1 _)
    have hR4 := H.out.below B5.out
    have z4 := B5.out.size
    refine (ref_add hR4 (by omega) hbig (.slice a1 n1 c1, .slice pa E'.length pc, .slice qa E'.length qc) ⟨_, _, _, _, _, _, _, _, _, rfl⟩).mono ?_
    rintro e w5 ⟨rfl, v', h5, hn5, ho5⟩
    have hsl := refIn_slices hu4
    have HE : Hid (RRow w5 lo A v' (C ++ [(.slice a1 n1 c1, .slice pa E'.length pc, .slice qa E'.length qc)]) ∧ RefIn w5 (.agg #[.slice pa E'.length pc, .slice qa E'.length qc]) E' ∧ FreshV w.heap.size (.slice pa E'.length pc) ∧ FreshV w.heap.size (.slice qa E'.length qc) ∧ Off (RB A v') (.slice pa E'.length pc) ∧ Off (RB A v') (.slice qa E'.length qc) ∧ RNew w.heap.size v v' ∧ Only (RB A v) w w5) := Lib.hid
      ⟨h5, refIn_only hu4 ho5 (HF1.out.off (fun i hi e => by have := H.out.lt e; omega)) (HF2.out.off (fun i hi e => by have := H.out.lt e; omega)), HF1.out.mono (by omega), HF2.out.mono (by omega), (HF1.out.off (S := RB A v) (fun i hi e => by have := H.out.lt e; omega)).turn hsl.1 (fun i hi e => e.elim .inl (fun e => (hn5 i e).elim .inr (fun e => by omega))), (HF2.out.off (S := RB A v) (fun i hi e => by have := H.out.lt e; omega)).turn hsl.2 (fun i hi e => e.elim .inl (fun e => (hn5 i e).elim .inr (fun e => by omega))), fun i hi => (hn5 i hi).imp id (fun e => by omega), (Only.of_below B5.out _).trans ho5⟩
    clear h5 hn5 ho5 hu4 o1 o2 hR4
    go_wp2
    go_ret
    exact ⟨rfl, _, _, _, HE.out⟩
  · have H3 := Lib.hid e3
    have hb := KB.out false (by simpa using hbr) W2 B2.out
    clear e3 hbr KB
    refine hb.mono ?_
    rintro e w3 ⟨rfl, hB3⟩
    have hb3 := hb2.below hB3 hb2.lt
    have k1 := hb3.at (o := 1) rfl
    have k2 := hb3.at (o := 2) rfl
    have z3 := hB3.size
    have B3 := Lib.hid (below_step B2.out hB3)
    clear hb2 hB3 hb
    go_wp2_with fail
    refine (ref_Put0 _ E key m w3 (HL.out.below B3.out) hEb HKL.out).mono ?_
    rintro e w4 ⟨r, rfl, ⟨hr, ks', vs', rfl, hf1, hf2⟩, hB4⟩
    rw [← H3.out] at hr
    obtain ⟨pa, pc, qa, qc, rfl, rfl⟩ := refIn_form hr
    have hb4 := hb3.below hB4 hb3.lt
    have k0 := hb4.at (o := 0) rfl
    have k1 := hb4.at (o := 1) rfl
    have k2 := hb4.at (o := 2) rfl
    have g1 := hb4.frozen 1
    have g2 := hb4.frozen 2
    have HU := Lib.hid hr
    have HF1 := Lib.hid hf1
    have HF2 := Lib.hid hf2
    have B4 := Lib.hid (below_step B3.out hB4)
    clear hb3 hb4 hr hf1 hf2 hB4 H3
    go_wp2_with fail
    have o1 : Off (fun i => i = w1.heap.size) (.slice pa E'.length pc) := HF1.out.off (fun i hi e => by omega)
    have o2 : Off (fun i => i = w1.heap.size) (.slice qa E'.length qc) := HF2.out.off (fun i hi e => by omega)
    have hu4 := refIn_only (refIn_only HU.out (only_at w4 w1.heap.size 1 (.slice pa E'.length pc)) o1 o2) (only_at _ w1.heap.size 2 (.slice qa E'.length qc)) o1 o2
    have B5 : Hid (Below w.heap.size w ((w4.setCell ⟨w1.heap.size, 1, none⟩ (.slice pa E'.length pc)).setCell ⟨w1.heap.size, 2, none⟩ (.slice qa E'.length qc))) := Lib.hid ((B4.out.setCell (p := ⟨w1.heap.size, 1, none⟩) z1 _).setCell (p := ⟨w1.heap.size, 2, none⟩) z1 _)
    have hR4 := H.out.below B5.out
    have z4 := B5.out.size
    refine (ref_add hR4 (by omega) hbig (.slice a1 n1 c1, .slice pa E'.length pc, .slice qa E'.length qc) ⟨_, _, _, _, _, _, _, _, _, rfl⟩).mono ?_
    rintro e w5 ⟨rfl, v', h5, hn5, ho5⟩
    have hsl := refIn_slices hu4
    have HE : Hid (RRow w5 lo A v' (C ++ [(.slice a1 n1 c1, .slice pa E'.length pc, .slice qa E'.length qc)]) ∧ RefIn w5 (.agg #[.slice pa E'.length pc, .slice qa E'.length qc]) E' ∧ FreshV w.heap.size (.slice pa E'.length pc) ∧ FreshV w.heap.size (.slice qa E'.length qc) ∧ Off (RB A v') (.slice pa E'.length pc) ∧ Off (RB A v') (.slice qa E'.length qc) ∧ RNew w.heap.size v v' ∧ Only (RB A v) w w5) := Lib.hid
      ⟨h5, refIn_only hu4 ho5 (HF1.out.off (fun i hi e => by have := H.out.lt e; omega)) (HF2.out.off (fun i hi e => by have := H.out.lt e; omega)), HF1.out.mono (by omega), HF2.out.mono (by omega), (HF1.out.off (S := RB A v) (fun i hi e => by have := H.out.lt e; omega)).turn hsl.1 (fun i hi e => e.elim .inl (fun e => (hn5 i e).elim .inr (fun e => by omega))), (HF2.out.off (S := RB A v) (fun i hi e => by have := H.out.lt e; omega)).turn hsl.2 (fun i hi e => e.elim .inl (fun e => (hn5 i e).elim .inr (fun e => by omega))), fun i hi => (hn5 i hi).imp id (fun e => by omega), (Only.of_below B5.out _).trans ho5⟩
    clear h5 hn5 ho5 hu4 o1 o2 hR4
    go_wp2
    go_ret
    exact ⟨rfl, _, _, _, HE.out⟩
end

end Go.Proofs.Yteigkomefehpjaa
