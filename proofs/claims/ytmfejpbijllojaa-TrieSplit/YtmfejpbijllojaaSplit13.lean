/- TrieSplit's walk. Made by tools/gen_law13.py. -/
import Derived.Test.YtmfejpbijllojaaLawT13
import Derived.Test.YtmfejpbijllojaaRef1
import Derived.Test.YtmfejpbijllojaaJoin3
import Derived.Deep.CutBlock
import Derived.Deep.RegionHeld3
namespace Go.Proofs.Ytmfejpbijllojaa
open Go.RowKit Go.Shelf

abbrev SX3 (X Y Z : Nat) : Nat → Prop := fun j => j = X ∨ j = Y ∨ j = Z
/-- Where the loops stand: three tries in their boxes. -/
structure SSt (w1 wr : World) (X Y Z : Nat) (qx : Option Addr) (nx : Nat) (ox : Nd) (Px : List Pr) (qy : Option Addr) (ny : Nat) (oy : Nd) (Py : List Pr) (qz : Option Addr) (nz : Nat) (oz : Nd) (Pz : List Pr) : Prop where
  x : BxAt (SX3 X Y Z) wr X qx nx ox Px
  y : BxAt (SX3 X Y Z) wr Y qy ny oy Py
  z : BxAt (SX3 X Y Z) wr Z qz nz oz Pz
  low : Below w1.heap.size w1 wr
  lx : w1.heap.size ≤ X
  ly : w1.heap.size ≤ Y
  lz : w1.heap.size ≤ Z
  xy : X ≠ Y
  xz : X ≠ Z
  yz : Y ≠ Z
section
variable {w1 wr W : World} {X Y Z : Nat} {qx qy qz q' : Option Addr} {nx ny nz n' : Nat} {ox oy oz o' : Nd} {Px Py Pz P' : List Pr}
theorem SSt.below (h : SSt w1 wr X Y Z qx nx ox Px qy ny oy Py qz nz oz Pz) (hb : Below wr.heap.size wr W) : SSt w1 W X Y Z qx nx ox Px qy ny oy Py qz nz oz Pz :=
  ⟨h.x.below hb, h.y.below hb, h.z.below hb, below_step h.low hb, h.lx, h.ly, h.lz, h.xy, h.xz, h.yz⟩
theorem SSt.fresh (h : SSt w1 wr X Y Z qx nx ox Px qy ny oy Py qz nz oz Pz) : ∀ j, wr.heap.size ≤ j → ¬ SX3 X Y Z j := fun j hj e => by
  have h1 := h.x.box.lt
  have h2 := h.y.box.lt
  have h3 := h.z.box.lt
  rcases e with e | e | e <;> omega
theorem SSt.putx (h : SSt w1 wr X Y Z qx nx ox Px qy ny oy Py qz nz oz Pz) (hn : NdAt (SX3 X Y Z) wr q' n' o' P') : SSt w1 ((wr.setCell ⟨X, 0, none⟩ (.pointer q')).setCell ⟨X, 1, none⟩ (.int .i64 (n' : Int))) X Y Z q' n' o' P' qy ny oy Py qz nz oz Pz :=
  ⟨h.x.put (Below.refl _ _) hn (.inl rfl), h.y.only (only_put2 wr X _ _) (fun _ e => .inl e) (Ne.symm h.xy), h.z.only (only_put2 wr X _ _) (fun _ e => .inl e) (Ne.symm h.xz), (h.low.setCell (p := ⟨X, 0, none⟩) h.lx _).setCell (p := ⟨X, 1, none⟩) h.lx _, h.lx, h.ly, h.lz, h.xy, h.xz, h.yz⟩
theorem SSt.puty (h : SSt w1 wr X Y Z qx nx ox Px qy ny oy Py qz nz oz Pz) (hn : NdAt (SX3 X Y Z) wr q' n' o' P') : SSt w1 ((wr.setCell ⟨Y, 0, none⟩ (.pointer q')).setCell ⟨Y, 1, none⟩ (.int .i64 (n' : Int))) X Y Z qx nx ox Px q' n' o' P' qz nz oz Pz :=
  ⟨h.x.only (only_put2 wr Y _ _) (fun _ e => .inr (.inl e)) h.xy, h.y.put (Below.refl _ _) hn (.inr (.inl rfl)), h.z.only (only_put2 wr Y _ _) (fun _ e => .inr (.inl e)) (Ne.symm h.yz), (h.low.setCell (p := ⟨Y, 0, none⟩) h.ly _).setCell (p := ⟨Y, 1, none⟩) h.ly _, h.lx, h.ly, h.lz, h.xy, h.xz, h.yz⟩
theorem SSt.putz (h : SSt w1 wr X Y Z qx nx ox Px qy ny oy Py qz nz oz Pz) (hn : NdAt (SX3 X Y Z) wr q' n' o' P') : SSt w1 ((wr.setCell ⟨Z, 0, none⟩ (.pointer q')).setCell ⟨Z, 1, none⟩ (.int .i64 (n' : Int))) X Y Z qx nx ox Px qy ny oy Py q' n' o' P' :=
  ⟨h.x.only (only_put2 wr Z _ _) (fun _ e => .inr (.inr e)) h.xz, h.y.only (only_put2 wr Z _ _) (fun _ e => .inr (.inr e)) h.yz, h.z.put (Below.refl _ _) hn (.inr (.inr rfl)), (h.low.setCell (p := ⟨Z, 0, none⟩) h.lz _).setCell (p := ⟨Z, 1, none⟩) h.lz _, h.lx, h.ly, h.lz, h.xy, h.xz, h.yz⟩
end
theorem mem_addZ {P : List Pr} {f : Key} {s : Int} {p : Pr} : p ∈ addZ P f s ↔ p ∈ P ∨ (filterZ f = true ∧ p = (f, s)) := by
  unfold addZ
  split
  · rename_i h
    rw [List.mem_append, List.mem_singleton]
    exact ⟨fun e => e.imp id fun e => ⟨h.1, e⟩, fun e => e.imp id fun e => e.2⟩
  · rename_i h
    refine ⟨.inl, ?_⟩
    rintro (e | ⟨e1, rfl⟩)
    · exact e
    · exact Classical.byContradiction fun e => h ⟨e1, e⟩
/-- All pairs of the third are of the first or of the second. -/
def Both13 (Px Py Pz : List Pr) : Prop := ∀ p, p ∈ Pz ↔ p ∈ Px ∨ p ∈ Py
theorem Both13.left {Px Py Pz : List Pr} (h : Both13 Px Py Pz) (f : Key) (s : Int) : Both13 (addZ Px f s) Py (addZ Pz f s) := fun p => by
  rw [mem_addZ, mem_addZ, h p]
  constructor
  · rintro ((h | h) | h)
    · exact .inl (.inl h)
    · exact .inr h
    · exact .inl (.inr h)
  · rintro ((h | h) | h)
    · exact .inl (.inl h)
    · exact .inr h
    · exact .inl (.inr h)
theorem Both13.right {Px Py Pz : List Pr} (h : Both13 Px Py Pz) (f : Key) (s : Int) : Both13 Px (addZ Py f s) (addZ Pz f s) := fun p => by
  rw [mem_addZ, mem_addZ, h p]
  constructor
  · rintro ((h | h) | h)
    · exact .inl h
    · exact .inr (.inl h)
    · exact .inr (.inr h)
  · rintro (h | h | h)
    · exact .inl (.inl h)
    · exact .inl (.inr h)
    · exact .inr h
theorem Both13.matches {Px Py Pz : List Pr} (h : Both13 Px Py Pz) (t : Key) : ofZ (mzP Pz t) = jnZ (ofZ (mzP Px t)) (ofZ (mzP Py t)) :=
  up_ext (ofZ_facts _).1 (up_jnZ (ofZ_facts _).1 (ofZ_facts _).1) fun z => by
    rw [mem_jnZ (ofZ_facts _).1, (ofZ_facts _).2, (ofZ_facts _).2, (ofZ_facts _).2, mem_mzP, mem_mzP, mem_mzP]
    constructor
    · rintro ⟨f, h1, h2⟩
      rcases (h _).1 h1 with h1 | h1
      · exact .inl ⟨f, h1, h2⟩
      · exact .inr ⟨f, h1, h2⟩
    · rintro (⟨f, h1, h2⟩ | ⟨f, h1, h2⟩)
      · exact ⟨f, (h _).2 (.inl h1), h2⟩
      · exact ⟨f, (h _).2 (.inr h1), h2⟩
theorem Both13.few {Px Py Pz : List Pr} (h : Both13 Px Py Pz) (hn : Pz.Nodup) : Pz.length ≤ Px.length + Py.length := by
  rw [← List.length_append]
  exact nodup_le hn fun x hx => List.mem_append.2 ((h x).1 hx)
theorem sst_new (w1 : World) : SSt w1 (((w1.alloc (.cells #[.pointer none, .int .i64 0] 27)).alloc (.cells #[.pointer none, .int .i64 0] 27)).alloc (.cells #[.pointer none, .int .i64 0] 27)) w1.heap.size (w1.heap.size + 1) (w1.heap.size + 1 + 1) none 0 none [] none 0 none [] none 0 none [] := by
  have h1 := bxAt_new (S := SX3 w1.heap.size (w1.heap.size + 1) (w1.heap.size + 1 + 1)) (W := w1) (n := 0) ndAt_nil
  have h2 := bxAt_new (S := SX3 w1.heap.size (w1.heap.size + 1) (w1.heap.size + 1 + 1)) (W := w1.alloc (.cells #[.pointer none, .int .i64 ((0 : Nat) : Int)] 27)) (n := 0) ndAt_nil
  have h3 := bxAt_new (S := SX3 w1.heap.size (w1.heap.size + 1) (w1.heap.size + 1 + 1)) (W := (w1.alloc (.cells #[.pointer none, .int .i64 ((0 : Nat) : Int)] 27)).alloc (.cells #[.pointer none, .int .i64 ((0 : Nat) : Int)] 27)) (n := 0) ndAt_nil
  rw [World.size_alloc] at h2
  rw [World.size_alloc, World.size_alloc] at h3
  exact ⟨(h1.below (new_below _ _)).below (new_below _ _), h2.below (new_below _ _), h3, below_step (below_step (new_below _ _) (new_below _ _)) (new_below _ _), Nat.le_refl _, Nat.le_succ _, by omega, by omega, by omega, by omega⟩

set_option maxRecDepth 100000 in
set_option maxHeartbeats 16000000 in
theorem split13 (a : Option Addr) (cap : Nat) (D : List Td) (a2 : Option Addr) (cap2 : Nat) (E : List Td) (t : ByteArray) (w : World) (ht : DIn w a D) (ht2 : DIn w a2 E) :
    Calls Try.prog 5 #[.slice a D.length cap, .slice a2 E.length cap2, .string t] w fun e w' => e = .returned (.bool true) ∧ Below w.heap.size w w' := by
  have HT := Lib.hid ht
  have HT2 := Lib.hid ht2
  clear ht ht2
  obtain ⟨big, hbig⟩ : ∃ b : Bool, greatZ D = b := ⟨_, rfl⟩
  obtain ⟨big2, hbig2⟩ : ∃ b : Bool, greatZ E = b := ⟨_, rfl⟩
  have HG := Lib.hid hbig
  have HG2 := Lib.hid hbig2
  go_enter Try.func5, Try.ntmps5
  go_wp2_with fail
  refine (awake13 w).mono ?_
  rintro e w1 ⟨rfl, hb⟩
  have B1 := Lib.hid hb
  have T1 := Lib.hid (HT.out.below hb)
  have T2 := Lib.hid (HT2.out.below hb)
  clear hb HT HT2
  go_wp2_with fail
  refine (great13 a cap D w1 T1.out).mono ?_
  rintro e w' ⟨rfl, rfl⟩
  rw [HG.out]
  cases big with
  | true =>
    go_wp2
    go_ret
    exact ⟨rfl, B1.out⟩
  | false =>
    go_wp2_with fail
    refine (great13 a2 cap2 E w1 T2.out).mono ?_
    rintro e w' ⟨rfl, rfl⟩
    rw [HG2.out]
    cases big2 with
    | true =>
      go_wp2
      go_ret
      exact ⟨rfl, B1.out⟩
    | false =>
      obtain ⟨_, hf100⟩ := small_of hbig
      obtain ⟨_, hg100⟩ := small_of hbig2
      have HF := Lib.hid hf100
      have HF2 := Lib.hid hg100
      clear hbig hf100 HG hbig2 hg100 HG2
      by_cases hD : 40 < D.length
      · have hd2 : (40 : Int) < (D.length : Int) := by omega
        go_wp2
        go_ret
        exact ⟨rfl, B1.out⟩
      by_cases hE : 40 < E.length
      · have hd : ¬ (40 : Int) < (D.length : Int) := by omega
        have hd2 : (40 : Int) < (E.length : Int) := by omega
        go_wp2
        go_ret
        exact ⟨rfl, B1.out⟩
      have hd : ¬ (40 : Int) < (D.length : Int) := by omega
      have hd2 : ¬ (40 : Int) < (E.length : Int) := by omega
      by_cases htz : 300 < t.size
      · go_wp2_with fail
        refine (ref_Long_yes t w1 htz).mono ?_
        rintro e w' ⟨rfl, rfl⟩
        go_wp2
        go_ret
        exact ⟨rfl, B1.out⟩
      go_wp2_with fail
      refine (ref_Long_no t w1 (by omega)).mono ?_
      rintro e w' ⟨rfl, rfl⟩
      go_wp2_with fail
      have S3 := Lib.hid (sst_new w1)
      generalize (((w1.alloc (.cells #[.pointer none, .int .i64 0] 27)).alloc (.cells #[.pointer none, .int .i64 0] 27)).alloc (.cells #[.pointer none, .int .i64 0] 27)) = w3 at S3 ⊢
      obtain ⟨X, hX⟩ : ∃ T, w1.heap.size = T := ⟨_, rfl⟩
      obtain ⟨Y, hY⟩ : ∃ T, w1.heap.size + 1 = T := ⟨_, rfl⟩
      obtain ⟨Z, hZ⟩ : ∃ T, w1.heap.size + 1 + 1 = T := ⟨_, rfl⟩
      rw [hZ, hY, hX] at S3 ⊢
      clear hX hY hZ hd hd2
      go_loopg [10] D.length (fun g i wr => ∃ (k : Nat) (qx : Option Addr) (nx : Nat) (ox : Nd) (Px : List Pr) (qz : Option Addr) (nz : Nat) (oz : Nd) (Pz : List Pr), k + g = D.length ∧ i = .int .i64 k ∧ Px.length ≤ k ∧ Pz.length ≤ k ∧ Hid (SSt w1 wr X Y Z qx nx ox Px none 0 none [] qz nz oz Pz ∧ Both13 Px [] Pz))
      case atStart => exact ⟨0, _, _, _, _, _, _, _, _, by omega, rfl, by simp, by simp, Lib.hid ⟨S3.out, fun p => by simp⟩⟩
      case round =>
        obtain ⟨k, q, n, o, P, qz, nz, oz, Pz, hk, rfl, hl1, hl2, ST⟩ := hrel
        have hkL : k ≤ D.length := by omega
        clear S3
        have hP : P.length ≤ 110 := by omega
        have hPz : Pz.length ≤ 110 := by omega
        by_cases hlt : k < D.length
        · obtain ⟨b, off, rfl, hb, hx⟩ := T1.out.2.at k hlt
          have hfs : D[k].f.size ≤ 100 := HF.out _ (List.getElem_mem hlt)
          generalize D[k] = p at hx hfs
          obtain ⟨dr, df, ds⟩ := p
          have HX : Hid (∀ W, Below w1.heap.size w1 W → W.cell? ⟨b, off + k * 3 + 1, none⟩ = some (.string df) ∧ W.cell? ⟨b, off + k * 3 + 2, none⟩ = some (.int .i64 ds)) := Lib.hid fun W hW =>
            ⟨(hW.cell (p := ⟨b, off + k * 3 + 1, none⟩) hb).trans (hx 1 _ rfl), (hW.cell (p := ⟨b, off + k * 3 + 2, none⟩) hb).trans (hx 2 _ rfl)⟩
          have hlt2 : (k : Int) < (D.length : Int) := by omega
          clear hx hb
          dsimp only at *
          go_upto_region 9 with fail
          have hst := ST.out.1.below (W := wr.drew) (Below.refl _ _).drew
          have HBo := Lib.hid ST.out.2
          clear ST
          refine wp_region_noPanic ?_
          refine wp_region_held_drew (S := (fun w' => w'.cell? ⟨b, off + k * 3 + 1, none⟩ = some (.string df) ∧ w'.cell? ⟨b, off + k * 3 + 2, none⟩ = some (.int .i64 ds))) (by kernel_rfl) ?_ (fun hHeld => ?_)
          · exact HX.out _ hst.low
          refine wpAnyH_take (i := 1) (oi := ⟨some 42, _, _, _, _, _⟩) (v := ?_) rfl (by kernel_rfl) (by kernel_rfl) (by kernel_rfl) (fun _ _ _ h => h) (Or.inl ⟨by rfl, ?_⟩) (by assumption) ?_
          rotate_left
          · (intro w hSw; (try dsimp only at hSw); go_simp; try with_reducible rfl)
          try simp only [Act.put, List.setIfInBounds_toArray, List.set_cons_zero, List.set_cons_succ]
          refine wpAnyH_take (i := 2) (oi := ⟨some 43, _, _, _, _, _⟩) (v := ?_) rfl (by kernel_rfl) (by kernel_rfl) (by kernel_rfl) (fun _ _ _ h => h) (Or.inl ⟨by rfl, ?_⟩) (by assumption) ?_
          rotate_left
          · (intro w hSw; (try dsimp only at hSw); go_simp; try with_reducible rfl)
          try simp only [Act.put, List.setIfInBounds_toArray, List.set_cons_zero, List.set_cons_succ]
          refine wpAnyH_take (i := 3) (oi := ⟨some 44, _, _, _, _, _⟩) (v := ?_) rfl (by kernel_rfl) (by kernel_rfl) (by kernel_rfl) (fun _ _ _ h => h) (Or.inl ⟨by rfl, ?_⟩) (by assumption) ?_
          rotate_left
          · (intro w hSw; (try dsimp only at hSw); go_simp; try with_reducible rfl)
          try simp only [Act.put, List.setIfInBounds_toArray, List.set_cons_zero, List.set_cons_succ]
          refine wpAnyH_take (i := 4) (oi := ⟨some 45, _, _, _, _, _⟩) (v := ?_) rfl (by kernel_rfl) (by kernel_rfl) (by kernel_rfl) (fun _ _ _ h => h) (Or.inl ⟨by rfl, ?_⟩) (by assumption) ?_
          rotate_left
          · (intro w hSw; (try dsimp only at hSw); go_simp; try with_reducible rfl)
          try simp only [Act.put, List.setIfInBounds_toArray, List.set_cons_zero, List.set_cons_succ]
          refine wpAnyH_take (i := 5) (oi := ⟨some 46, _, _, _, _, _⟩) (v := ?_) rfl (by kernel_rfl) (by kernel_rfl) (by kernel_rfl) (fun _ _ _ h => h) (Or.inl ⟨by rfl, ?_⟩) (by assumption) ?_
          rotate_left
          · (intro w hSw; (try dsimp only at hSw); go_simp; try with_reducible rfl)
          try simp only [Act.put, List.setIfInBounds_toArray, List.set_cons_zero, List.set_cons_succ]
          refine wpAnyH_take (i := 6) (oi := ⟨some 47, _, _, _, _, _⟩) (v := ?_) rfl (by kernel_rfl) (by kernel_rfl) (by kernel_rfl) (fun _ _ _ h => h) (Or.inl ⟨by rfl, ?_⟩) (by assumption) ?_
          rotate_left
          · (intro w hSw; (try dsimp only at hSw); go_simp; try with_reducible rfl)
          try simp only [Act.put, List.setIfInBounds_toArray, List.set_cons_zero, List.set_cons_succ]
          refine wpAnyH_take (i := 7) (oi := ⟨some 48, _, _, _, _, _⟩) (v := ?_) rfl (by kernel_rfl) (by kernel_rfl) (by kernel_rfl) (fun _ _ _ h => h) (Or.inl ⟨by rfl, ?_⟩) (by assumption) ?_
          rotate_left
          · (intro w hSw; (try dsimp only at hSw); go_simp; try with_reducible rfl)
          try simp only [Act.put, List.setIfInBounds_toArray, List.set_cons_zero, List.set_cons_succ]
          refine wpAnyH_take (i := 8) (oi := ⟨some 49, _, _, _, _, _⟩) (v := ?_) rfl (by kernel_rfl) (by kernel_rfl) (by kernel_rfl) (fun _ _ _ h => h) (Or.inl ⟨by rfl, ?_⟩) (by assumption) ?_
          rotate_left
          · (intro w hSw; (try dsimp only at hSw); go_simp; try with_reducible rfl)
          try simp only [Act.put, List.setIfInBounds_toArray, List.set_cons_zero, List.set_cons_succ]
          refine wpAnyH_take (i := 9) (oi := ⟨some 50, _, _, _, _, _⟩) (v := ?_) rfl (by kernel_rfl) (by kernel_rfl) (by kernel_rfl) (fun _ _ _ h => h) (Or.inl ⟨by rfl, ?_⟩) (by assumption) ?_
          rotate_left
          · (intro w hSw; (try dsimp only at hSw); go_simp; try with_reducible rfl)
          try simp only [Act.put, List.setIfInBounds_toArray, List.set_cons_zero, List.set_cons_succ]
          refine wpAnyH_take (i := 10) (oi := ⟨some 51, _, _, _, _, _⟩) (v := ?_) rfl (by kernel_rfl) (by kernel_rfl) (by kernel_rfl) (fun _ _ _ h => h) (Or.inl ⟨by rfl, ?_⟩) (by assumption) ?_
          rotate_left
          · (intro w hSw; (try dsimp only at hSw); go_simp; try with_reducible rfl)
          try simp only [Act.put, List.setIfInBounds_toArray, List.set_cons_zero, List.set_cons_succ]
          refine wpAnyH_ready (rs := [0]) (by kernel_rfl) (by simp) ?_
          refine AllReadyH.cons (o := ⟨some 41, _, _, _, _, _⟩) rfl (fun K hK => ?_) AllReadyH.nil
          have cX := hst.x.box.at (o := 0) rfl
          have cY := hst.x.box.at (o := 1) rfl
          go_simp
          clear cX cY
          refine hK.out _ _ ?_ (fun hHeldX => ?_)
          · exact HX.out _ hst.low
          clear hK K hHeld
          rename _ => hHeld
          try simp only [Act.put, List.setIfInBounds_toArray, List.set_cons_zero, List.set_cons_succ]
          refine wpAnyH_ready (rs := [11]) (by kernel_rfl) (by simp) ?_
          refine AllReadyH.cons (o := ⟨some 52, _, _, _, _, _⟩) rfl (fun K hK => ?_) AllReadyH.nil
          go_simp
          refine (hst.x.at_.add hst.fresh hP df ds).mono ?_
          rintro e wx ⟨q', n', o', rfl, hnd, hcp, hBx⟩
          replace hst := hst.below hBx
          have HND := Lib.hid hnd
          have HCP := Lib.hid hcp
          clear hnd hcp
          go_wp2_with fail
          refine hK.out _ _ ?_ (fun hHeldX => ?_)
          · exact HX.out _ hst.low
          clear hK K hHeld
          rename _ => hHeld
          try simp only [Act.put, List.setIfInBounds_toArray, List.set_cons_zero, List.set_cons_succ]
          refine wpAnyH_take (i := 12) (oi := ⟨some 40, _, _, _, _, _⟩) (v := ?_) rfl (by kernel_rfl) (by kernel_rfl) (by kernel_rfl) (fun _ _ _ h => h) (Or.inl ⟨by rfl, ?_⟩) (by assumption) ?_
          rotate_left
          · (intro w hSw; (try dsimp only at hSw); go_simp; try with_reducible rfl)
          try simp only [Act.put, List.setIfInBounds_toArray, List.set_cons_zero, List.set_cons_succ]
          refine wpAnyH_take (i := 13) (oi := ⟨some 53, _, _, _, _, _⟩) (v := ?_) rfl (by kernel_rfl) (by kernel_rfl) (by kernel_rfl) (fun _ _ _ h => h) (Or.inl ⟨by rfl, ?_⟩) (by assumption) ?_
          rotate_left
          · (intro w hSw; (try dsimp only at hSw); go_simp; try with_reducible rfl)
          try simp only [Act.put, List.setIfInBounds_toArray, List.set_cons_zero, List.set_cons_succ]
          refine wpAnyH_take (i := 14) (oi := ⟨some 54, _, _, _, _, _⟩) (v := ?_) rfl (by kernel_rfl) (by kernel_rfl) (by kernel_rfl) (fun _ _ _ h => h) (Or.inl ⟨by rfl, ?_⟩) (by assumption) ?_
          rotate_left
          · (intro w hSw; (try dsimp only at hSw); go_simp; try with_reducible rfl)
          try simp only [Act.put, List.setIfInBounds_toArray, List.set_cons_zero, List.set_cons_succ]
          refine wpAnyH_ready (rs := [15]) (by kernel_rfl) (by simp) ?_
          refine AllReadyH.cons (o := ⟨none, _, _, _, _, _⟩) rfl (fun K hK => ?_) AllReadyH.nil
          have cX := hst.x.box.at (o := 0) rfl
          have cY := hst.x.box.at (o := 1) rfl
          have fX := hst.x.box.frozen 0
          have fY := hst.x.box.frozen 1
          go_simp
          clear cX cY fX fY
          refine hK.out _ _ ?_ (fun hHeldX => ?_)
          · exact HX.out _ ((hst.low.setCell (p := ⟨X, 0, none⟩) hst.lx _).setCell (p := ⟨X, 1, none⟩) hst.lx _)
          clear hK K hHeld
          rename _ => hHeld
          try simp only [Act.put, List.setIfInBounds_toArray, List.set_cons_zero, List.set_cons_succ]
          refine wpAnyH_done (by kernel_rfl) ?_ _
          refine NoPanic.normal ?_
          have hE := hst.putx HND.out
          clear hst hHeld HND HCP
          have HE := Lib.hid hE
          have hlx' := addZ_len P df.data.toList ds
          clear hE
          generalize (World.setCell (World.setCell _ _ _) _ _) = W5 at *
          go_upto_region 10 with fail
          have hst := HE.out.below (W := W5.drew) (Below.refl _ _).drew
          clear HE
          refine wp_region_noPanic ?_
          refine wp_region_held_drew (S := (fun w' => w'.cell? ⟨b, off + k * 3 + 1, none⟩ = some (.string df) ∧ w'.cell? ⟨b, off + k * 3 + 2, none⟩ = some (.int .i64 ds))) (by kernel_rfl) ?_ (fun hHeld => ?_)
          · exact HX.out _ hst.low
          refine wpAnyH_take (i := 1) (oi := ⟨some 57, _, _, _, _, _⟩) (v := ?_) rfl (by kernel_rfl) (by kernel_rfl) (by kernel_rfl) (fun _ _ _ h => h) (Or.inl ⟨by rfl, ?_⟩) (by assumption) ?_
          rotate_left
          · (intro w hSw; (try dsimp only at hSw); go_simp; try with_reducible rfl)
          try simp only [Act.put, List.setIfInBounds_toArray, List.set_cons_zero, List.set_cons_succ]
          refine wpAnyH_take (i := 2) (oi := ⟨some 58, _, _, _, _, _⟩) (v := ?_) rfl (by kernel_rfl) (by kernel_rfl) (by kernel_rfl) (fun _ _ _ h => h) (Or.inl ⟨by rfl, ?_⟩) (by assumption) ?_
          rotate_left
          · (intro w hSw; (try dsimp only at hSw); go_simp; try with_reducible rfl)
          try simp only [Act.put, List.setIfInBounds_toArray, List.set_cons_zero, List.set_cons_succ]
          refine wpAnyH_take (i := 3) (oi := ⟨some 59, _, _, _, _, _⟩) (v := ?_) rfl (by kernel_rfl) (by kernel_rfl) (by kernel_rfl) (fun _ _ _ h => h) (Or.inl ⟨by rfl, ?_⟩) (by assumption) ?_
          rotate_left
          · (intro w hSw; (try dsimp only at hSw); go_simp; try with_reducible rfl)
          try simp only [Act.put, List.setIfInBounds_toArray, List.set_cons_zero, List.set_cons_succ]
          refine wpAnyH_take (i := 4) (oi := ⟨some 60, _, _, _, _, _⟩) (v := ?_) rfl (by kernel_rfl) (by kernel_rfl) (by kernel_rfl) (fun _ _ _ h => h) (Or.inl ⟨by rfl, ?_⟩) (by assumption) ?_
          rotate_left
          · (intro w hSw; (try dsimp only at hSw); go_simp; try with_reducible rfl)
          try simp only [Act.put, List.setIfInBounds_toArray, List.set_cons_zero, List.set_cons_succ]
          refine wpAnyH_take (i := 5) (oi := ⟨some 61, _, _, _, _, _⟩) (v := ?_) rfl (by kernel_rfl) (by kernel_rfl) (by kernel_rfl) (fun _ _ _ h => h) (Or.inl ⟨by rfl, ?_⟩) (by assumption) ?_
          rotate_left
          · (intro w hSw; (try dsimp only at hSw); go_simp; try with_reducible rfl)
          try simp only [Act.put, List.setIfInBounds_toArray, List.set_cons_zero, List.set_cons_succ]
          refine wpAnyH_take (i := 6) (oi := ⟨some 62, _, _, _, _, _⟩) (v := ?_) rfl (by kernel_rfl) (by kernel_rfl) (by kernel_rfl) (fun _ _ _ h => h) (Or.inl ⟨by rfl, ?_⟩) (by assumption) ?_
          rotate_left
          · (intro w hSw; (try dsimp only at hSw); go_simp; try with_reducible rfl)
          try simp only [Act.put, List.setIfInBounds_toArray, List.set_cons_zero, List.set_cons_succ]
          refine wpAnyH_take (i := 7) (oi := ⟨some 63, _, _, _, _, _⟩) (v := ?_) rfl (by kernel_rfl) (by kernel_rfl) (by kernel_rfl) (fun _ _ _ h => h) (Or.inl ⟨by rfl, ?_⟩) (by assumption) ?_
          rotate_left
          · (intro w hSw; (try dsimp only at hSw); go_simp; try with_reducible rfl)
          try simp only [Act.put, List.setIfInBounds_toArray, List.set_cons_zero, List.set_cons_succ]
          refine wpAnyH_take (i := 8) (oi := ⟨some 64, _, _, _, _, _⟩) (v := ?_) rfl (by kernel_rfl) (by kernel_rfl) (by kernel_rfl) (fun _ _ _ h => h) (Or.inl ⟨by rfl, ?_⟩) (by assumption) ?_
          rotate_left
          · (intro w hSw; (try dsimp only at hSw); go_simp; try with_reducible rfl)
          try simp only [Act.put, List.setIfInBounds_toArray, List.set_cons_zero, List.set_cons_succ]
          refine wpAnyH_take (i := 9) (oi := ⟨some 65, _, _, _, _, _⟩) (v := ?_) rfl (by kernel_rfl) (by kernel_rfl) (by kernel_rfl) (fun _ _ _ h => h) (Or.inl ⟨by rfl, ?_⟩) (by assumption) ?_
          rotate_left
          · (intro w hSw; (try dsimp only at hSw); go_simp; try with_reducible rfl)
          try simp only [Act.put, List.setIfInBounds_toArray, List.set_cons_zero, List.set_cons_succ]
          refine wpAnyH_take (i := 10) (oi := ⟨some 66, _, _, _, _, _⟩) (v := ?_) rfl (by kernel_rfl) (by kernel_rfl) (by kernel_rfl) (fun _ _ _ h => h) (Or.inl ⟨by rfl, ?_⟩) (by assumption) ?_
          rotate_left
          · (intro w hSw; (try dsimp only at hSw); go_simp; try with_reducible rfl)
          try simp only [Act.put, List.setIfInBounds_toArray, List.set_cons_zero, List.set_cons_succ]
          refine wpAnyH_ready (rs := [0]) (by kernel_rfl) (by simp) ?_
          refine AllReadyH.cons (o := ⟨some 56, _, _, _, _, _⟩) rfl (fun K hK => ?_) AllReadyH.nil
          have cX := hst.z.box.at (o := 0) rfl
          have cY := hst.z.box.at (o := 1) rfl
          go_simp
          clear cX cY
          refine hK.out _ _ ?_ (fun hHeldX => ?_)
          · exact HX.out _ hst.low
          clear hK K hHeld
          rename _ => hHeld
          try simp only [Act.put, List.setIfInBounds_toArray, List.set_cons_zero, List.set_cons_succ]
          refine wpAnyH_ready (rs := [11]) (by kernel_rfl) (by simp) ?_
          refine AllReadyH.cons (o := ⟨some 67, _, _, _, _, _⟩) rfl (fun K hK => ?_) AllReadyH.nil
          go_simp
          refine (hst.z.at_.add hst.fresh hPz df ds).mono ?_
          rintro e wx ⟨q', n', o', rfl, hnd, hcp, hBx⟩
          replace hst := hst.below hBx
          have HND := Lib.hid hnd
          have HCP := Lib.hid hcp
          clear hnd hcp
          go_wp2_with fail
          refine hK.out _ _ ?_ (fun hHeldX => ?_)
          · exact HX.out _ hst.low
          clear hK K hHeld
          rename _ => hHeld
          try simp only [Act.put, List.setIfInBounds_toArray, List.set_cons_zero, List.set_cons_succ]
          refine wpAnyH_take (i := 12) (oi := ⟨some 55, _, _, _, _, _⟩) (v := ?_) rfl (by kernel_rfl) (by kernel_rfl) (by kernel_rfl) (fun _ _ _ h => h) (Or.inl ⟨by rfl, ?_⟩) (by assumption) ?_
          rotate_left
          · (intro w hSw; (try dsimp only at hSw); go_simp; try with_reducible rfl)
          try simp only [Act.put, List.setIfInBounds_toArray, List.set_cons_zero, List.set_cons_succ]
          refine wpAnyH_take (i := 13) (oi := ⟨some 68, _, _, _, _, _⟩) (v := ?_) rfl (by kernel_rfl) (by kernel_rfl) (by kernel_rfl) (fun _ _ _ h => h) (Or.inl ⟨by rfl, ?_⟩) (by assumption) ?_
          rotate_left
          · (intro w hSw; (try dsimp only at hSw); go_simp; try with_reducible rfl)
          try simp only [Act.put, List.setIfInBounds_toArray, List.set_cons_zero, List.set_cons_succ]
          refine wpAnyH_take (i := 14) (oi := ⟨some 69, _, _, _, _, _⟩) (v := ?_) rfl (by kernel_rfl) (by kernel_rfl) (by kernel_rfl) (fun _ _ _ h => h) (Or.inl ⟨by rfl, ?_⟩) (by assumption) ?_
          rotate_left
          · (intro w hSw; (try dsimp only at hSw); go_simp; try with_reducible rfl)
          try simp only [Act.put, List.setIfInBounds_toArray, List.set_cons_zero, List.set_cons_succ]
          refine wpAnyH_ready (rs := [15]) (by kernel_rfl) (by simp) ?_
          refine AllReadyH.cons (o := ⟨none, _, _, _, _, _⟩) rfl (fun K hK => ?_) AllReadyH.nil
          have cX := hst.z.box.at (o := 0) rfl
          have cY := hst.z.box.at (o := 1) rfl
          have fX := hst.z.box.frozen 0
          have fY := hst.z.box.frozen 1
          go_simp
          clear cX cY fX fY
          refine hK.out _ _ ?_ (fun hHeldX => ?_)
          · exact HX.out _ ((hst.low.setCell (p := ⟨Z, 0, none⟩) hst.lz _).setCell (p := ⟨Z, 1, none⟩) hst.lz _)
          clear hK K hHeld
          rename _ => hHeld
          try simp only [Act.put, List.setIfInBounds_toArray, List.set_cons_zero, List.set_cons_succ]
          refine wpAnyH_done (by kernel_rfl) ?_ _
          refine NoPanic.normal ?_
          have hE := hst.putz HND.out
          clear hst hHeld HND HCP
          have HE := Lib.hid (And.intro hE (HBo.out.left df.data.toList ds))
          have hlz' := addZ_len Pz df.data.toList ds
          clear hE HBo
          generalize hPz' : addZ Pz df.data.toList ds = Pz' at *
          generalize hPP' : addZ P df.data.toList ds = PP' at *
          generalize (World.setCell (World.setCell _ _ _) _ _) = W6 at *
          clear hPz' hPP'
          go_wp2_with fail
          go_roundg (gk - 1)
          case measure => omega
          case rel => exact ⟨k + 1, _, _, _, _, _, _, _, _, by omega, by go_num, by omega, by omega, HE⟩
        · obtain rfl : k = D.length := by omega
          have hge : ¬ ((D.length : Int) < (D.length : Int)) := by omega
          have hl1' : P.length ≤ 40 := by omega
          have hl2' : Pz.length ≤ 40 := by omega
          clear hk hl1 hl2
          go_wp2_with fail
          go_loopg [11] E.length (fun g i wr => ∃ (k : Nat) (qy : Option Addr) (ny : Nat) (oy : Nd) (Py : List Pr) (qz : Option Addr) (nz : Nat) (oz : Nd) (Pz : List Pr), k + g = E.length ∧ i = .int .i64 k ∧ Py.length ≤ k ∧ Pz.length ≤ 40 + k ∧ Hid (SSt w1 wr X Y Z q n o P qy ny oy Py qz nz oz Pz ∧ Both13 P Py Pz))
          case atStart => exact ⟨0, _, _, _, _, _, _, _, _, by omega, rfl, by simp, by omega, ST⟩
          case round =>
            obtain ⟨k, qy, ny, oy, Py, qz, nz, oz, Pz, hk, rfl, hl1, hl2, ST⟩ := hrel
            have hkL : k ≤ E.length := by omega
            have hPy : Py.length ≤ 110 := by omega
            have hPz : Pz.length ≤ 110 := by omega
            by_cases hlt : k < E.length
            · obtain ⟨b, off, rfl, hb, hx⟩ := T2.out.2.at k hlt
              have hfs : E[k].f.size ≤ 100 := HF2.out _ (List.getElem_mem hlt)
              generalize E[k] = p at hx hfs
              obtain ⟨dr, df, ds⟩ := p
              have HX : Hid (∀ W, Below w1.heap.size w1 W → W.cell? ⟨b, off + k * 3 + 1, none⟩ = some (.string df) ∧ W.cell? ⟨b, off + k * 3 + 2, none⟩ = some (.int .i64 ds)) := Lib.hid fun W hW =>
                ⟨(hW.cell (p := ⟨b, off + k * 3 + 1, none⟩) hb).trans (hx 1 _ rfl), (hW.cell (p := ⟨b, off + k * 3 + 2, none⟩) hb).trans (hx 2 _ rfl)⟩
              have hlt2 : (k : Int) < (E.length : Int) := by omega
              clear hx hb
              dsimp only at *
              go_upto_region 14 with fail
              have hst := ST.out.1.below (W := wr.drew) (Below.refl _ _).drew
              have HBo := Lib.hid ST.out.2
              clear ST
              refine wp_region_noPanic ?_
              refine wp_region_held_drew (S := (fun w' => w'.cell? ⟨b, off + k * 3 + 1, none⟩ = some (.string df) ∧ w'.cell? ⟨b, off + k * 3 + 2, none⟩ = some (.int .i64 ds))) (by kernel_rfl) ?_ (fun hHeld => ?_)
              · exact HX.out _ hst.low
              refine wpAnyH_take (i := 1) (oi := ⟨some 78, _, _, _, _, _⟩) (v := ?_) rfl (by kernel_rfl) (by kernel_rfl) (by kernel_rfl) (fun _ _ _ h => h) (Or.inl ⟨by rfl, ?_⟩) (by assumption) ?_
              rotate_left
              · (intro w hSw; (try dsimp only at hSw); go_simp; try with_reducible rfl)
              try simp only [Act.put, List.setIfInBounds_toArray, List.set_cons_zero, List.set_cons_succ]
              refine wpAnyH_take (i := 2) (oi := ⟨some 79, _, _, _, _, _⟩) (v := ?_) rfl (by kernel_rfl) (by kernel_rfl) (by kernel_rfl) (fun _ _ _ h => h) (Or.inl ⟨by rfl, ?_⟩) (by assumption) ?_
              rotate_left
              · (intro w hSw; (try dsimp only at hSw); go_simp; try with_reducible rfl)
              try simp only [Act.put, List.setIfInBounds_toArray, List.set_cons_zero, List.set_cons_succ]
              refine wpAnyH_take (i := 3) (oi := ⟨some 80, _, _, _, _, _⟩) (v := ?_) rfl (by kernel_rfl) (by kernel_rfl) (by kernel_rfl) (fun _ _ _ h => h) (Or.inl ⟨by rfl, ?_⟩) (by assumption) ?_
              rotate_left
              · (intro w hSw; (try dsimp only at hSw); go_simp; try with_reducible rfl)
              try simp only [Act.put, List.setIfInBounds_toArray, List.set_cons_zero, List.set_cons_succ]
              refine wpAnyH_take (i := 4) (oi := ⟨some 81, _, _, _, _, _⟩) (v := ?_) rfl (by kernel_rfl) (by kernel_rfl) (by kernel_rfl) (fun _ _ _ h => h) (Or.inl ⟨by rfl, ?_⟩) (by assumption) ?_
              rotate_left
              · (intro w hSw; (try dsimp only at hSw); go_simp; try with_reducible rfl)
              try simp only [Act.put, List.setIfInBounds_toArray, List.set_cons_zero, List.set_cons_succ]
              refine wpAnyH_take (i := 5) (oi := ⟨some 82, _, _, _, _, _⟩) (v := ?_) rfl (by kernel_rfl) (by kernel_rfl) (by kernel_rfl) (fun _ _ _ h => h) (Or.inl ⟨by rfl, ?_⟩) (by assumption) ?_
              rotate_left
              · (intro w hSw; (try dsimp only at hSw); go_simp; try with_reducible rfl)
              try simp only [Act.put, List.setIfInBounds_toArray, List.set_cons_zero, List.set_cons_succ]
              refine wpAnyH_take (i := 6) (oi := ⟨some 83, _, _, _, _, _⟩) (v := ?_) rfl (by kernel_rfl) (by kernel_rfl) (by kernel_rfl) (fun _ _ _ h => h) (Or.inl ⟨by rfl, ?_⟩) (by assumption) ?_
              rotate_left
              · (intro w hSw; (try dsimp only at hSw); go_simp; try with_reducible rfl)
              try simp only [Act.put, List.setIfInBounds_toArray, List.set_cons_zero, List.set_cons_succ]
              refine wpAnyH_take (i := 7) (oi := ⟨some 84, _, _, _, _, _⟩) (v := ?_) rfl (by kernel_rfl) (by kernel_rfl) (by kernel_rfl) (fun _ _ _ h => h) (Or.inl ⟨by rfl, ?_⟩) (by assumption) ?_
              rotate_left
              · (intro w hSw; (try dsimp only at hSw); go_simp; try with_reducible rfl)
              try simp only [Act.put, List.setIfInBounds_toArray, List.set_cons_zero, List.set_cons_succ]
              refine wpAnyH_take (i := 8) (oi := ⟨some 85, _, _, _, _, _⟩) (v := ?_) rfl (by kernel_rfl) (by kernel_rfl) (by kernel_rfl) (fun _ _ _ h => h) (Or.inl ⟨by rfl, ?_⟩) (by assumption) ?_
              rotate_left
              · (intro w hSw; (try dsimp only at hSw); go_simp; try with_reducible rfl)
              try simp only [Act.put, List.setIfInBounds_toArray, List.set_cons_zero, List.set_cons_succ]
              refine wpAnyH_take (i := 9) (oi := ⟨some 86, _, _, _, _, _⟩) (v := ?_) rfl (by kernel_rfl) (by kernel_rfl) (by kernel_rfl) (fun _ _ _ h => h) (Or.inl ⟨by rfl, ?_⟩) (by assumption) ?_
              rotate_left
              · (intro w hSw; (try dsimp only at hSw); go_simp; try with_reducible rfl)
              try simp only [Act.put, List.setIfInBounds_toArray, List.set_cons_zero, List.set_cons_succ]
              refine wpAnyH_take (i := 10) (oi := ⟨some 87, _, _, _, _, _⟩) (v := ?_) rfl (by kernel_rfl) (by kernel_rfl) (by kernel_rfl) (fun _ _ _ h => h) (Or.inl ⟨by rfl, ?_⟩) (by assumption) ?_
              rotate_left
              · (intro w hSw; (try dsimp only at hSw); go_simp; try with_reducible rfl)
              try simp only [Act.put, List.setIfInBounds_toArray, List.set_cons_zero, List.set_cons_succ]
              refine wpAnyH_ready (rs := [0]) (by kernel_rfl) (by simp) ?_
              refine AllReadyH.cons (o := ⟨some 77, _, _, _, _, _⟩) rfl (fun K hK => ?_) AllReadyH.nil
              have cX := hst.y.box.at (o := 0) rfl
              have cY := hst.y.box.at (o := 1) rfl
              go_simp
              clear cX cY
              refine hK.out _ _ ?_ (fun hHeldX => ?_)
              · exact HX.out _ hst.low
              clear hK K hHeld
              rename _ => hHeld
              try simp only [Act.put, List.setIfInBounds_toArray, List.set_cons_zero, List.set_cons_succ]
              refine wpAnyH_ready (rs := [11]) (by kernel_rfl) (by simp) ?_
              refine AllReadyH.cons (o := ⟨some 88, _, _, _, _, _⟩) rfl (fun K hK => ?_) AllReadyH.nil
              go_simp
              refine (hst.y.at_.add hst.fresh hPy df ds).mono ?_
              rintro e wx ⟨q', n', o', rfl, hnd, hcp, hBx⟩
              replace hst := hst.below hBx
              have HND := Lib.hid hnd
              have HCP := Lib.hid hcp
              clear hnd hcp
              go_wp2_with fail
              refine hK.out _ _ ?_ (fun hHeldX => ?_)
              · exact HX.out _ hst.low
              clear hK K hHeld
              rename _ => hHeld
              try simp only [Act.put, List.setIfInBounds_toArray, List.set_cons_zero, List.set_cons_succ]
              refine wpAnyH_take (i := 12) (oi := ⟨some 76, _, _, _, _, _⟩) (v := ?_) rfl (by kernel_rfl) (by kernel_rfl) (by kernel_rfl) (fun _ _ _ h => h) (Or.inl ⟨by rfl, ?_⟩) (by assumption) ?_
              rotate_left
              · (intro w hSw; (try dsimp only at hSw); go_simp; try with_reducible rfl)
              try simp only [Act.put, List.setIfInBounds_toArray, List.set_cons_zero, List.set_cons_succ]
              refine wpAnyH_take (i := 13) (oi := ⟨some 89, _, _, _, _, _⟩) (v := ?_) rfl (by kernel_rfl) (by kernel_rfl) (by kernel_rfl) (fun _ _ _ h => h) (Or.inl ⟨by rfl, ?_⟩) (by assumption) ?_
              rotate_left
              · (intro w hSw; (try dsimp only at hSw); go_simp; try with_reducible rfl)
              try simp only [Act.put, List.setIfInBounds_toArray, List.set_cons_zero, List.set_cons_succ]
              refine wpAnyH_take (i := 14) (oi := ⟨some 90, _, _, _, _, _⟩) (v := ?_) rfl (by kernel_rfl) (by kernel_rfl) (by kernel_rfl) (fun _ _ _ h => h) (Or.inl ⟨by rfl, ?_⟩) (by assumption) ?_
              rotate_left
              · (intro w hSw; (try dsimp only at hSw); go_simp; try with_reducible rfl)
              try simp only [Act.put, List.setIfInBounds_toArray, List.set_cons_zero, List.set_cons_succ]
              refine wpAnyH_ready (rs := [15]) (by kernel_rfl) (by simp) ?_
              refine AllReadyH.cons (o := ⟨none, _, _, _, _, _⟩) rfl (fun K hK => ?_) AllReadyH.nil
              have cX := hst.y.box.at (o := 0) rfl
              have cY := hst.y.box.at (o := 1) rfl
              have fX := hst.y.box.frozen 0
              have fY := hst.y.box.frozen 1
              go_simp
              clear cX cY fX fY
              refine hK.out _ _ ?_ (fun hHeldX => ?_)
              · exact HX.out _ ((hst.low.setCell (p := ⟨Y, 0, none⟩) hst.ly _).setCell (p := ⟨Y, 1, none⟩) hst.ly _)
              clear hK K hHeld
              rename _ => hHeld
              try simp only [Act.put, List.setIfInBounds_toArray, List.set_cons_zero, List.set_cons_succ]
              refine wpAnyH_done (by kernel_rfl) ?_ _
              refine NoPanic.normal ?_
              have hE := hst.puty HND.out
              clear hst hHeld HND HCP
              have HE := Lib.hid hE
              have hlx' := addZ_len Py df.data.toList ds
              clear hE
              generalize (World.setCell (World.setCell _ _ _) _ _) = W5 at *
              go_upto_region 15 with fail
              have hst := HE.out.below (W := W5.drew) (Below.refl _ _).drew
              clear HE
              refine wp_region_noPanic ?_
              refine wp_region_held_drew (S := (fun w' => w'.cell? ⟨b, off + k * 3 + 1, none⟩ = some (.string df) ∧ w'.cell? ⟨b, off + k * 3 + 2, none⟩ = some (.int .i64 ds))) (by kernel_rfl) ?_ (fun hHeld => ?_)
              · exact HX.out _ hst.low
              refine wpAnyH_take (i := 1) (oi := ⟨some 93, _, _, _, _, _⟩) (v := ?_) rfl (by kernel_rfl) (by kernel_rfl) (by kernel_rfl) (fun _ _ _ h => h) (Or.inl ⟨by rfl, ?_⟩) (by assumption) ?_
              rotate_left
              · (intro w hSw; (try dsimp only at hSw); go_simp; try with_reducible rfl)
              try simp only [Act.put, List.setIfInBounds_toArray, List.set_cons_zero, List.set_cons_succ]
              refine wpAnyH_take (i := 2) (oi := ⟨some 94, _, _, _, _, _⟩) (v := ?_) rfl (by kernel_rfl) (by kernel_rfl) (by kernel_rfl) (fun _ _ _ h => h) (Or.inl ⟨by rfl, ?_⟩) (by assumption) ?_
              rotate_left
              · (intro w hSw; (try dsimp only at hSw); go_simp; try with_reducible rfl)
              try simp only [Act.put, List.setIfInBounds_toArray, List.set_cons_zero, List.set_cons_succ]
              refine wpAnyH_take (i := 3) (oi := ⟨some 95, _, _, _, _, _⟩) (v := ?_) rfl (by kernel_rfl) (by kernel_rfl) (by kernel_rfl) (fun _ _ _ h => h) (Or.inl ⟨by rfl, ?_⟩) (by assumption) ?_
              rotate_left
              · (intro w hSw; (try dsimp only at hSw); go_simp; try with_reducible rfl)
              try simp only [Act.put, List.setIfInBounds_toArray, List.set_cons_zero, List.set_cons_succ]
              refine wpAnyH_take (i := 4) (oi := ⟨some 96, _, _, _, _, _⟩) (v := ?_) rfl (by kernel_rfl) (by kernel_rfl) (by kernel_rfl) (fun _ _ _ h => h) (Or.inl ⟨by rfl, ?_⟩) (by assumption) ?_
              rotate_left
              · (intro w hSw; (try dsimp only at hSw); go_simp; try with_reducible rfl)
              try simp only [Act.put, List.setIfInBounds_toArray, List.set_cons_zero, List.set_cons_succ]
              refine wpAnyH_take (i := 5) (oi := ⟨some 97, _, _, _, _, _⟩) (v := ?_) rfl (by kernel_rfl) (by kernel_rfl) (by kernel_rfl) (fun _ _ _ h => h) (Or.inl ⟨by rfl, ?_⟩) (by assumption) ?_
              rotate_left
              · (intro w hSw; (try dsimp only at hSw); go_simp; try with_reducible rfl)
              try simp only [Act.put, List.setIfInBounds_toArray, List.set_cons_zero, List.set_cons_succ]
              refine wpAnyH_take (i := 6) (oi := ⟨some 98, _, _, _, _, _⟩) (v := ?_) rfl (by kernel_rfl) (by kernel_rfl) (by kernel_rfl) (fun _ _ _ h => h) (Or.inl ⟨by rfl, ?_⟩) (by assumption) ?_
              rotate_left
              · (intro w hSw; (try dsimp only at hSw); go_simp; try with_reducible rfl)
              try simp only [Act.put, List.setIfInBounds_toArray, List.set_cons_zero, List.set_cons_succ]
              refine wpAnyH_take (i := 7) (oi := ⟨some 99, _, _, _, _, _⟩) (v := ?_) rfl (by kernel_rfl) (by kernel_rfl) (by kernel_rfl) (fun _ _ _ h => h) (Or.inl ⟨by rfl, ?_⟩) (by assumption) ?_
              rotate_left
              · (intro w hSw; (try dsimp only at hSw); go_simp; try with_reducible rfl)
              try simp only [Act.put, List.setIfInBounds_toArray, List.set_cons_zero, List.set_cons_succ]
              refine wpAnyH_take (i := 8) (oi := ⟨some 100, _, _, _, _, _⟩) (v := ?_) rfl (by kernel_rfl) (by kernel_rfl) (by kernel_rfl) (fun _ _ _ h => h) (Or.inl ⟨by rfl, ?_⟩) (by assumption) ?_
              rotate_left
              · (intro w hSw; (try dsimp only at hSw); go_simp; try with_reducible rfl)
              try simp only [Act.put, List.setIfInBounds_toArray, List.set_cons_zero, List.set_cons_succ]
              refine wpAnyH_take (i := 9) (oi := ⟨some 101, _, _, _, _, _⟩) (v := ?_) rfl (by kernel_rfl) (by kernel_rfl) (by kernel_rfl) (fun _ _ _ h => h) (Or.inl ⟨by rfl, ?_⟩) (by assumption) ?_
              rotate_left
              · (intro w hSw; (try dsimp only at hSw); go_simp; try with_reducible rfl)
              try simp only [Act.put, List.setIfInBounds_toArray, List.set_cons_zero, List.set_cons_succ]
              refine wpAnyH_take (i := 10) (oi := ⟨some 102, _, _, _, _, _⟩) (v := ?_) rfl (by kernel_rfl) (by kernel_rfl) (by kernel_rfl) (fun _ _ _ h => h) (Or.inl ⟨by rfl, ?_⟩) (by assumption) ?_
              rotate_left
              · (intro w hSw; (try dsimp only at hSw); go_simp; try with_reducible rfl)
              try simp only [Act.put, List.setIfInBounds_toArray, List.set_cons_zero, List.set_cons_succ]
              refine wpAnyH_ready (rs := [0]) (by kernel_rfl) (by simp) ?_
              refine AllReadyH.cons (o := ⟨some 92, _, _, _, _, _⟩) rfl (fun K hK => ?_) AllReadyH.nil
              have cX := hst.z.box.at (o := 0) rfl
              have cY := hst.z.box.at (o := 1) rfl
              go_simp
              clear cX cY
              refine hK.out _ _ ?_ (fun hHeldX => ?_)
              · exact HX.out _ hst.low
              clear hK K hHeld
              rename _ => hHeld
              try simp only [Act.put, List.setIfInBounds_toArray, List.set_cons_zero, List.set_cons_succ]
              refine wpAnyH_ready (rs := [11]) (by kernel_rfl) (by simp) ?_
              refine AllReadyH.cons (o := ⟨some 103, _, _, _, _, _⟩) rfl (fun K hK => ?_) AllReadyH.nil
              go_simp
              refine (hst.z.at_.add hst.fresh hPz df ds).mono ?_
              rintro e wx ⟨q', n', o', rfl, hnd, hcp, hBx⟩
              replace hst := hst.below hBx
              have HND := Lib.hid hnd
              have HCP := Lib.hid hcp
              clear hnd hcp
              go_wp2_with fail
              refine hK.out _ _ ?_ (fun hHeldX => ?_)
              · exact HX.out _ hst.low
              clear hK K hHeld
              rename _ => hHeld
              try simp only [Act.put, List.setIfInBounds_toArray, List.set_cons_zero, List.set_cons_succ]
              refine wpAnyH_take (i := 12) (oi := ⟨some 91, _, _, _, _, _⟩) (v := ?_) rfl (by kernel_rfl) (by kernel_rfl) (by kernel_rfl) (fun _ _ _ h => h) (Or.inl ⟨by rfl, ?_⟩) (by assumption) ?_
              rotate_left
              · (intro w hSw; (try dsimp only at hSw); go_simp; try with_reducible rfl)
              try simp only [Act.put, List.setIfInBounds_toArray, List.set_cons_zero, List.set_cons_succ]
              refine wpAnyH_take (i := 13) (oi := ⟨some 104, _, _, _, _, _⟩) (v := ?_) rfl (by kernel_rfl) (by kernel_rfl) (by kernel_rfl) (fun _ _ _ h => h) (Or.inl ⟨by rfl, ?_⟩) (by assumption) ?_
              rotate_left
              · (intro w hSw; (try dsimp only at hSw); go_simp; try with_reducible rfl)
              try simp only [Act.put, List.setIfInBounds_toArray, List.set_cons_zero, List.set_cons_succ]
              refine wpAnyH_take (i := 14) (oi := ⟨some 105, _, _, _, _, _⟩) (v := ?_) rfl (by kernel_rfl) (by kernel_rfl) (by kernel_rfl) (fun _ _ _ h => h) (Or.inl ⟨by rfl, ?_⟩) (by assumption) ?_
              rotate_left
              · (intro w hSw; (try dsimp only at hSw); go_simp; try with_reducible rfl)
              try simp only [Act.put, List.setIfInBounds_toArray, List.set_cons_zero, List.set_cons_succ]
              refine wpAnyH_ready (rs := [15]) (by kernel_rfl) (by simp) ?_
              refine AllReadyH.cons (o := ⟨none, _, _, _, _, _⟩) rfl (fun K hK => ?_) AllReadyH.nil
              have cX := hst.z.box.at (o := 0) rfl
              have cY := hst.z.box.at (o := 1) rfl
              have fX := hst.z.box.frozen 0
              have fY := hst.z.box.frozen 1
              go_simp
              clear cX cY fX fY
              refine hK.out _ _ ?_ (fun hHeldX => ?_)
              · exact HX.out _ ((hst.low.setCell (p := ⟨Z, 0, none⟩) hst.lz _).setCell (p := ⟨Z, 1, none⟩) hst.lz _)
              clear hK K hHeld
              rename _ => hHeld
              try simp only [Act.put, List.setIfInBounds_toArray, List.set_cons_zero, List.set_cons_succ]
              refine wpAnyH_done (by kernel_rfl) ?_ _
              refine NoPanic.normal ?_
              have hE := hst.putz HND.out
              clear hst hHeld HND HCP
              have HE := Lib.hid (And.intro hE (HBo.out.right df.data.toList ds))
              have hlz' := addZ_len Pz df.data.toList ds
              clear hE HBo
              generalize hPz' : addZ Pz df.data.toList ds = Pz' at *
              generalize hPP' : addZ Py df.data.toList ds = PP' at *
              generalize (World.setCell (World.setCell _ _ _) _ _) = W6 at *
              clear hPz' hPP'
              go_wp2_with fail
              go_roundg (gk - 1)
              case measure => omega
              case rel => exact ⟨k + 1, _, _, _, _, _, _, _, _, by omega, by go_num, by omega, by omega, HE⟩
            · obtain rfl : k = E.length := by omega
              have hge : ¬ ((E.length : Int) < (E.length : Int)) := by omega
              go_upto_region 16 with fail
              have hst := ST.out.1.below (W := wr.drew) (Below.refl _ _).drew
              have HBo := Lib.hid ST.out.2
              obtain ⟨lx, hlx⟩ : ∃ m, P.length = m := ⟨_, rfl⟩
              obtain ⟨ly, hly⟩ : ∃ m, Py.length = m := ⟨_, rfl⟩
              obtain ⟨lz, hlz⟩ : ∃ m, Pz.length = m := ⟨_, rfl⟩
              obtain ⟨sx, hsx⟩ : ∃ m, ndN o - 1 = m := ⟨_, rfl⟩
              obtain ⟨sy, hsy⟩ : ∃ m, ndN oy - 1 = m := ⟨_, rfl⟩
              obtain ⟨sz, hsz⟩ : ∃ m, ndN oz - 1 = m := ⟨_, rfl⟩
              have hll : (lz : Int) ≤ (lx : Int) + (ly : Int) := by have := ST.out.2.few ST.out.1.z.at_.ok.nodup; omega
              have hsx' := hst.x.at_.ok.size
              have hsy' := hst.y.at_.ok.size
              have hsz' := hst.z.at_.ok.size
              rw [hsx] at hsx'
              rw [hsy] at hsy'
              rw [hsz] at hsz'
              have hss : (sz : Int) ≤ (sx : Int) + (sy : Int) := by have := hsx'.join hsy' hsz' fun x hx => (ST.out.2 x).1 hx; omega
              have hm1 : sx ≤ sz := hsx'.le hsz' fun x hx => (ST.out.2 x).2 (.inl hx)
              have hm2 : sy ≤ sz := hsy'.le hsz' fun x hx => (ST.out.2 x).2 (.inr hx)
              have hmax : max (sx : Int) (sy : Int) ≤ (sz : Int) := by omega
              have hbx : sx ≤ 4000 := by have := hst.x.at_.ok.n4 hP; omega
              have hby : sy ≤ 4000 := by have := hst.y.at_.ok.n4 hPy; omega
              have hi1 : IntKind.i64.wrap ((lx : Int) + (ly : Int)) = (lx : Int) + (ly : Int) := IntWalk.i64_in _ (by omega)
              have hi2 : IntKind.i64.wrap ((sx : Int) + (sy : Int)) = (sx : Int) + (sy : Int) := IntWalk.i64_in _ (by omega)
              have HLX := Lib.hid hlx
              have HLY := Lib.hid hly
              have HLZ := Lib.hid hlz
              have HSX := Lib.hid hsx
              have HSY := Lib.hid hsy
              have HSZ := Lib.hid hsz
              have HMT := Lib.hid (ST.out.2.matches t.data.toList)
              have HQ : Hid (P.length ≤ 110 ∧ Py.length ≤ 110 ∧ Pz.length ≤ 110) := ⟨hP, hPy, hPz⟩
              clear ST hlx hly hlz hsx hsy hsz hsx' hsy' hsz' hm1 hm2 HBo hP hPy hPz hl1 hl2 hl1' hl2' hbx hby hk hkL hge hlt
              refine wp_region_noPanic ?_
              refine wp_region_held_drew (S := (fun w' => w'.cell? ⟨X, 0, none⟩ = some (.pointer q) ∧ w'.cell? ⟨X, 1, none⟩ = some (.int .i64 (n : Int)) ∧ w'.cell? ⟨Y, 0, none⟩ = some (.pointer qy) ∧ w'.cell? ⟨Y, 1, none⟩ = some (.int .i64 (ny : Int)) ∧ w'.cell? ⟨Z, 0, none⟩ = some (.pointer qz) ∧ w'.cell? ⟨Z, 1, none⟩ = some (.int .i64 (nz : Int)))) (by kernel_rfl) ?_ (fun hHeld => ?_)
              · exact ⟨hst.x.box.at (o := 0) rfl, hst.x.box.at (o := 1) rfl, hst.y.box.at (o := 0) rfl, hst.y.box.at (o := 1) rfl, hst.z.box.at (o := 0) rfl, hst.z.box.at (o := 1) rfl⟩
              refine wpAnyH_take (i := 0) (oi := ⟨some 106, _, _, _, _, _⟩) (v := ?_) rfl (by kernel_rfl) (by kernel_rfl) (by kernel_rfl) (fun _ _ _ h => h) (Or.inl ⟨by rfl, ?_⟩) (by assumption) ?_
              rotate_left
              · (intro w hSw; (try dsimp only at hSw); go_simp; try with_reducible rfl)
              try simp only [Act.put, List.setIfInBounds_toArray, List.set_cons_zero, List.set_cons_succ]
              refine wpAnyH_take (i := 1) (oi := ⟨some 107, _, _, _, _, _⟩) (v := ?_) rfl (by kernel_rfl) (by kernel_rfl) (by kernel_rfl) (fun _ _ _ h => h) (Or.inl ⟨by rfl, ?_⟩) (by assumption) ?_
              rotate_left
              · (intro w hSw; (try dsimp only at hSw); go_simp; try with_reducible rfl)
              try simp only [Act.put, List.setIfInBounds_toArray, List.set_cons_zero, List.set_cons_succ]
              refine wpAnyH_take (i := 4) (oi := ⟨some 110, _, _, _, _, _⟩) (v := ?_) rfl (by kernel_rfl) (by kernel_rfl) (by kernel_rfl) (fun _ _ _ h => h) (Or.inl ⟨by rfl, ?_⟩) (by assumption) ?_
              rotate_left
              · (intro w hSw; (try dsimp only at hSw); go_simp; try with_reducible rfl)
              try simp only [Act.put, List.setIfInBounds_toArray, List.set_cons_zero, List.set_cons_succ]
              refine wpAnyH_take (i := 5) (oi := ⟨some 111, _, _, _, _, _⟩) (v := ?_) rfl (by kernel_rfl) (by kernel_rfl) (by kernel_rfl) (fun _ _ _ h => h) (Or.inl ⟨by rfl, ?_⟩) (by assumption) ?_
              rotate_left
              · (intro w hSw; (try dsimp only at hSw); go_simp; try with_reducible rfl)
              try simp only [Act.put, List.setIfInBounds_toArray, List.set_cons_zero, List.set_cons_succ]
              refine wpAnyH_take (i := 7) (oi := ⟨some 113, _, _, _, _, _⟩) (v := ?_) rfl (by kernel_rfl) (by kernel_rfl) (by kernel_rfl) (fun _ _ _ h => h) (Or.inl ⟨by rfl, ?_⟩) (by assumption) ?_
              rotate_left
              · (intro w hSw; (try dsimp only at hSw); go_simp; try with_reducible rfl)
              try simp only [Act.put, List.setIfInBounds_toArray, List.set_cons_zero, List.set_cons_succ]
              refine wpAnyH_take (i := 8) (oi := ⟨some 114, _, _, _, _, _⟩) (v := ?_) rfl (by kernel_rfl) (by kernel_rfl) (by kernel_rfl) (fun _ _ _ h => h) (Or.inl ⟨by rfl, ?_⟩) (by assumption) ?_
              rotate_left
              · (intro w hSw; (try dsimp only at hSw); go_simp; try with_reducible rfl)
              try simp only [Act.put, List.setIfInBounds_toArray, List.set_cons_zero, List.set_cons_succ]
              refine wpAnyH_ready (rs := [2]) (by kernel_rfl) (by simp) ?_
              refine AllReadyH.cons (o := ⟨some 108, _, _, _, _, _⟩) rfl (fun K hK => ?_) AllReadyH.nil
              go_simp
              refine (hst.z.at_.mat HQ.out.2.2 t).mono ?_
              rintro e wx ⟨r1, rfl, hs1, hBx⟩
              replace hst := hst.below hBx
              clear hBx
              go_wp2_with fail
              refine hK.out _ _ ?_ (fun hHeldX => ?_)
              · exact ⟨hst.x.box.at (o := 0) rfl, hst.x.box.at (o := 1) rfl, hst.y.box.at (o := 0) rfl, hst.y.box.at (o := 1) rfl, hst.z.box.at (o := 0) rfl, hst.z.box.at (o := 1) rfl⟩
              clear hK K hHeld
              rename _ => hHeld
              try simp only [Act.put, List.setIfInBounds_toArray, List.set_cons_zero, List.set_cons_succ]
              refine wpAnyH_ready (rs := [3]) (by kernel_rfl) (by simp) ?_
              refine AllReadyH.cons (o := ⟨some 109, _, _, _, _, _⟩) rfl (fun K hK => ?_) AllReadyH.nil
              go_simp
              refine (list13 r1 _ _ hs1 (by have h1 := mz_len P t.data.toList; have h2 := mz_len Py t.data.toList; have h3 := mz_len Pz t.data.toList; have h4 := HQ.out; omega)).mono ?_
              rintro e wx ⟨r2, rfl, hn2, hBx⟩
              replace hst := hst.below hBx
              clear hs1
              clear hBx
              go_wp2_with fail
              refine hK.out _ _ ?_ (fun hHeldX => ?_)
              · exact ⟨hst.x.box.at (o := 0) rfl, hst.x.box.at (o := 1) rfl, hst.y.box.at (o := 0) rfl, hst.y.box.at (o := 1) rfl, hst.z.box.at (o := 0) rfl, hst.z.box.at (o := 1) rfl⟩
              clear hK K hHeld
              rename _ => hHeld
              try simp only [Act.put, List.setIfInBounds_toArray, List.set_cons_zero, List.set_cons_succ]
              refine wpAnyH_ready (rs := [6]) (by kernel_rfl) (by simp) ?_
              refine AllReadyH.cons (o := ⟨some 112, _, _, _, _, _⟩) rfl (fun K hK => ?_) AllReadyH.nil
              go_simp
              refine (hst.x.at_.mat HQ.out.1 t).mono ?_
              rintro e wx ⟨r3, rfl, hs3, hBx⟩
              replace hst := hst.below hBx
              replace hn2 := hn2.below hBx
              clear hBx
              go_wp2_with fail
              refine hK.out _ _ ?_ (fun hHeldX => ?_)
              · exact ⟨hst.x.box.at (o := 0) rfl, hst.x.box.at (o := 1) rfl, hst.y.box.at (o := 0) rfl, hst.y.box.at (o := 1) rfl, hst.z.box.at (o := 0) rfl, hst.z.box.at (o := 1) rfl⟩
              clear hK K hHeld
              rename _ => hHeld
              try simp only [Act.put, List.setIfInBounds_toArray, List.set_cons_zero, List.set_cons_succ]
              refine wpAnyH_ready (rs := [9]) (by kernel_rfl) (by simp) ?_
              refine AllReadyH.cons (o := ⟨some 115, _, _, _, _, _⟩) rfl (fun K hK => ?_) AllReadyH.nil
              go_simp
              refine (hst.y.at_.mat HQ.out.2.1 t).mono ?_
              rintro e wx ⟨r4, rfl, hs4, hBx⟩
              replace hst := hst.below hBx
              replace hn2 := hn2.below hBx
              replace hs3 := hs3.below hBx
              clear hBx
              go_wp2_with fail
              refine hK.out _ _ ?_ (fun hHeldX => ?_)
              · exact ⟨hst.x.box.at (o := 0) rfl, hst.x.box.at (o := 1) rfl, hst.y.box.at (o := 0) rfl, hst.y.box.at (o := 1) rfl, hst.z.box.at (o := 0) rfl, hst.z.box.at (o := 1) rfl⟩
              clear hK K hHeld
              rename _ => hHeld
              try simp only [Act.put, List.setIfInBounds_toArray, List.set_cons_zero, List.set_cons_succ]
              refine wpAnyH_ready (rs := [10]) (by kernel_rfl) (by simp) ?_
              refine AllReadyH.cons (o := ⟨some 116, _, _, _, _, _⟩) rfl (fun K hK => ?_) AllReadyH.nil
              go_simp
              refine (set_Join r3 r4 _ _ _ hs3 hs4 (by have h1 := mz_len P t.data.toList; have h2 := mz_len Py t.data.toList; have h3 := mz_len Pz t.data.toList; have h4 := HQ.out; omega)).mono ?_
              rintro e wx ⟨r5, rfl, hs5, hBx⟩
              replace hst := hst.below hBx
              replace hn2 := hn2.below hBx
              rw [← HMT.out] at hs5
              clear hs3 hs4
              clear hBx
              go_wp2_with fail
              refine hK.out _ _ ?_ (fun hHeldX => ?_)
              · exact ⟨hst.x.box.at (o := 0) rfl, hst.x.box.at (o := 1) rfl, hst.y.box.at (o := 0) rfl, hst.y.box.at (o := 1) rfl, hst.z.box.at (o := 0) rfl, hst.z.box.at (o := 1) rfl⟩
              clear hK K hHeld
              rename _ => hHeld
              try simp only [Act.put, List.setIfInBounds_toArray, List.set_cons_zero, List.set_cons_succ]
              refine wpAnyH_ready (rs := [11]) (by kernel_rfl) (by simp) ?_
              refine AllReadyH.cons (o := ⟨some 117, _, _, _, _, _⟩) rfl (fun K hK => ?_) AllReadyH.nil
              go_simp
              refine (list13 r5 _ _ hs5 (by have h1 := mz_len P t.data.toList; have h2 := mz_len Py t.data.toList; have h3 := mz_len Pz t.data.toList; have h4 := HQ.out; omega)).mono ?_
              rintro e wx ⟨r6, rfl, hn6, hBx⟩
              replace hst := hst.below hBx
              replace hn2 := hn2.below hBx
              clear hs5
              clear hBx
              go_wp2_with fail
              refine hK.out _ _ ?_ (fun hHeldX => ?_)
              · exact ⟨hst.x.box.at (o := 0) rfl, hst.x.box.at (o := 1) rfl, hst.y.box.at (o := 0) rfl, hst.y.box.at (o := 1) rfl, hst.z.box.at (o := 0) rfl, hst.z.box.at (o := 1) rfl⟩
              clear hK K hHeld
              rename _ => hHeld
              try simp only [Act.put, List.setIfInBounds_toArray, List.set_cons_zero, List.set_cons_succ]
              refine wpAnyH_ready (rs := [12]) (by kernel_rfl) (by simp) ?_
              refine AllReadyH.cons (o := ⟨some 118, _, _, _, _, _⟩) rfl (fun K hK => ?_) AllReadyH.nil
              go_simp
              refine (ref_Ints _ _ _ _ _ hn2 hn6 (by have h1 := mz_len P t.data.toList; have h2 := mz_len Py t.data.toList; have h3 := mz_len Pz t.data.toList; have h4 := HQ.out; omega) (by have h1 := mz_len P t.data.toList; have h2 := mz_len Py t.data.toList; have h3 := mz_len Pz t.data.toList; have h4 := HQ.out; omega)).mono ?_
              rintro e wx ⟨rfl, hBx⟩
              replace hst := hst.below hBx
              rw [decide_eq_true rfl]
              clear hn2 hn6
              clear hBx
              go_wp2_with fail
              refine hK.out _ _ ?_ (fun hHeldX => ?_)
              · exact ⟨hst.x.box.at (o := 0) rfl, hst.x.box.at (o := 1) rfl, hst.y.box.at (o := 0) rfl, hst.y.box.at (o := 1) rfl, hst.z.box.at (o := 0) rfl, hst.z.box.at (o := 1) rfl⟩
              clear hK K hHeld
              rename _ => hHeld
              try simp only [Act.put, List.setIfInBounds_toArray, List.set_cons_zero, List.set_cons_succ]
              refine wpAnyH_take (i := 13) (oi := ⟨some 119, _, _, _, _, _⟩) (v := ?_) rfl (by kernel_rfl) (by kernel_rfl) (by kernel_rfl) (fun _ _ _ h => h) (Or.inl ⟨by rfl, ?_⟩) (by assumption) ?_
              rotate_left
              · (intro w hSw; (try dsimp only at hSw); go_simp; try with_reducible rfl)
              try simp only [Act.put, List.setIfInBounds_toArray, List.set_cons_zero, List.set_cons_succ]
              refine wpAnyH_take (i := 14) (oi := ⟨some 120, _, _, _, _, _⟩) (v := ?_) rfl (by kernel_rfl) (by kernel_rfl) (by kernel_rfl) (fun _ _ _ h => h) (Or.inl ⟨by rfl, ?_⟩) (by assumption) ?_
              rotate_left
              · (intro w hSw; (try dsimp only at hSw); go_simp; try with_reducible rfl)
              try simp only [Act.put, List.setIfInBounds_toArray, List.set_cons_zero, List.set_cons_succ]
              refine wpAnyH_take (i := 16) (oi := ⟨some 122, _, _, _, _, _⟩) (v := ?_) rfl (by kernel_rfl) (by kernel_rfl) (by kernel_rfl) (fun _ _ _ h => h) (Or.inl ⟨by rfl, ?_⟩) (by assumption) ?_
              rotate_left
              · (intro w hSw; (try dsimp only at hSw); go_simp; try with_reducible rfl)
              try simp only [Act.put, List.setIfInBounds_toArray, List.set_cons_zero, List.set_cons_succ]
              refine wpAnyH_take (i := 18) (oi := ⟨some 124, _, _, _, _, _⟩) (v := ?_) rfl (by kernel_rfl) (by kernel_rfl) (by kernel_rfl) (fun _ _ _ h => h) (Or.inl ⟨by rfl, ?_⟩) (by assumption) ?_
              rotate_left
              · (intro w hSw; (try dsimp only at hSw); go_simp; try with_reducible rfl)
              try simp only [Act.put, List.setIfInBounds_toArray, List.set_cons_zero, List.set_cons_succ]
              refine wpAnyH_ready (rs := [15]) (by kernel_rfl) (by simp) ?_
              refine AllReadyH.cons (o := ⟨some 121, _, _, _, _, _⟩) rfl (fun K hK => ?_) AllReadyH.nil
              go_simp
              refine (hst.z.at_.len).mono ?_
              rintro e wx ⟨rfl, hBx⟩
              replace hst := hst.below hBx
              rw [HLZ.out]
              clear hBx
              go_wp2_with fail
              refine hK.out _ _ ?_ (fun hHeldX => ?_)
              · exact ⟨hst.x.box.at (o := 0) rfl, hst.x.box.at (o := 1) rfl, hst.y.box.at (o := 0) rfl, hst.y.box.at (o := 1) rfl, hst.z.box.at (o := 0) rfl, hst.z.box.at (o := 1) rfl⟩
              clear hK K hHeld
              rename _ => hHeld
              try simp only [Act.put, List.setIfInBounds_toArray, List.set_cons_zero, List.set_cons_succ]
              refine wpAnyH_ready (rs := [17]) (by kernel_rfl) (by simp) ?_
              refine AllReadyH.cons (o := ⟨some 123, _, _, _, _, _⟩) rfl (fun K hK => ?_) AllReadyH.nil
              go_simp
              refine (hst.x.at_.len).mono ?_
              rintro e wx ⟨rfl, hBx⟩
              replace hst := hst.below hBx
              rw [HLX.out]
              clear hBx
              go_wp2_with fail
              refine hK.out _ _ ?_ (fun hHeldX => ?_)
              · exact ⟨hst.x.box.at (o := 0) rfl, hst.x.box.at (o := 1) rfl, hst.y.box.at (o := 0) rfl, hst.y.box.at (o := 1) rfl, hst.z.box.at (o := 0) rfl, hst.z.box.at (o := 1) rfl⟩
              clear hK K hHeld
              rename _ => hHeld
              try simp only [Act.put, List.setIfInBounds_toArray, List.set_cons_zero, List.set_cons_succ]
              refine wpAnyH_ready (rs := [19]) (by kernel_rfl) (by simp) ?_
              refine AllReadyH.cons (o := ⟨some 125, _, _, _, _, _⟩) rfl (fun K hK => ?_) AllReadyH.nil
              go_simp
              refine (hst.y.at_.len).mono ?_
              rintro e wx ⟨rfl, hBx⟩
              replace hst := hst.below hBx
              rw [HLY.out]
              clear hBx
              go_wp2_with fail
              refine hK.out _ _ ?_ (fun hHeldX => ?_)
              · exact ⟨hst.x.box.at (o := 0) rfl, hst.x.box.at (o := 1) rfl, hst.y.box.at (o := 0) rfl, hst.y.box.at (o := 1) rfl, hst.z.box.at (o := 0) rfl, hst.z.box.at (o := 1) rfl⟩
              clear hK K hHeld
              rename _ => hHeld
              try simp only [Act.put, List.setIfInBounds_toArray, List.set_cons_zero, List.set_cons_succ]
              refine wpAnyH_take (i := 20) (oi := ⟨some 126, _, _, _, _, _⟩) (v := ?_) rfl (by kernel_rfl) (by kernel_rfl) (by kernel_rfl) (fun _ _ _ h => h) (Or.inl ⟨by rfl, ?_⟩) (by assumption) ?_
              rotate_left
              · (intro w hSw; (try dsimp only at hSw); go_simp; try with_reducible rfl)
              try simp only [Act.put, List.setIfInBounds_toArray, List.set_cons_zero, List.set_cons_succ]
              refine wpAnyH_take (i := 21) (oi := ⟨some 127, _, _, _, _, _⟩) (v := ?_) rfl (by kernel_rfl) (by kernel_rfl) (by kernel_rfl) (fun _ _ _ h => h) (Or.inl ⟨by rfl, ?_⟩) (by assumption) ?_
              rotate_left
              · (intro w hSw; (try dsimp only at hSw); go_simp; try with_reducible rfl)
              try simp only [Act.put, List.setIfInBounds_toArray, List.set_cons_zero, List.set_cons_succ]
              refine wpAnyH_take (i := 22) (oi := ⟨some 128, _, _, _, _, _⟩) (v := ?_) rfl (by kernel_rfl) (by kernel_rfl) (by kernel_rfl) (fun _ _ _ h => h) (Or.inl ⟨by rfl, ?_⟩) (by assumption) ?_
              rotate_left
              · (intro w hSw; (try dsimp only at hSw); go_simp; try with_reducible rfl)
              try simp only [Act.put, List.setIfInBounds_toArray, List.set_cons_zero, List.set_cons_succ]
              refine wpAnyH_take (i := 23) (oi := ⟨some 129, _, _, _, _, _⟩) (v := ?_) rfl (by kernel_rfl) (by kernel_rfl) (by kernel_rfl) (fun _ _ _ h => h) (Or.inl ⟨by rfl, ?_⟩) (by assumption) ?_
              rotate_left
              · (intro w hSw; (try dsimp only at hSw); go_simp; try with_reducible rfl)
              try simp only [Act.put, List.setIfInBounds_toArray, List.set_cons_zero, List.set_cons_succ]
              refine wpAnyH_take (i := 24) (oi := ⟨some 130, _, _, _, _, _⟩) (v := ?_) rfl (by kernel_rfl) (by kernel_rfl) (by kernel_rfl) (fun _ _ _ h => h) (Or.inl ⟨by rfl, ?_⟩) (by assumption) ?_
              rotate_left
              · (intro w hSw; (try dsimp only at hSw); go_simp; try with_reducible rfl)
              try simp only [Act.put, List.setIfInBounds_toArray, List.set_cons_zero, List.set_cons_succ]
              refine wpAnyH_take (i := 26) (oi := ⟨some 132, _, _, _, _, _⟩) (v := ?_) rfl (by kernel_rfl) (by kernel_rfl) (by kernel_rfl) (fun _ _ _ h => h) (Or.inl ⟨by rfl, ?_⟩) (by assumption) ?_
              rotate_left
              · (intro w hSw; (try dsimp only at hSw); go_simp; try with_reducible rfl)
              try simp only [Act.put, List.setIfInBounds_toArray, List.set_cons_zero, List.set_cons_succ]
              refine wpAnyH_take (i := 28) (oi := ⟨some 134, _, _, _, _, _⟩) (v := ?_) rfl (by kernel_rfl) (by kernel_rfl) (by kernel_rfl) (fun _ _ _ h => h) (Or.inl ⟨by rfl, ?_⟩) (by assumption) ?_
              rotate_left
              · (intro w hSw; (try dsimp only at hSw); go_simp; try with_reducible rfl)
              try simp only [Act.put, List.setIfInBounds_toArray, List.set_cons_zero, List.set_cons_succ]
              refine wpAnyH_ready (rs := [25]) (by kernel_rfl) (by simp) ?_
              refine AllReadyH.cons (o := ⟨some 131, _, _, _, _, _⟩) rfl (fun K hK => ?_) AllReadyH.nil
              go_simp
              refine (hst.z.at_.size HQ.out.2.2).mono ?_
              rintro e wx ⟨rfl, hBx⟩
              replace hst := hst.below hBx
              rw [HSZ.out]
              clear hBx
              go_wp2_with fail
              refine hK.out _ _ ?_ (fun hHeldX => ?_)
              · exact ⟨hst.x.box.at (o := 0) rfl, hst.x.box.at (o := 1) rfl, hst.y.box.at (o := 0) rfl, hst.y.box.at (o := 1) rfl, hst.z.box.at (o := 0) rfl, hst.z.box.at (o := 1) rfl⟩
              clear hK K hHeld
              rename _ => hHeld
              try simp only [Act.put, List.setIfInBounds_toArray, List.set_cons_zero, List.set_cons_succ]
              refine wpAnyH_ready (rs := [27]) (by kernel_rfl) (by simp) ?_
              refine AllReadyH.cons (o := ⟨some 133, _, _, _, _, _⟩) rfl (fun K hK => ?_) AllReadyH.nil
              go_simp
              refine (hst.x.at_.size HQ.out.1).mono ?_
              rintro e wx ⟨rfl, hBx⟩
              replace hst := hst.below hBx
              rw [HSX.out]
              clear hBx
              go_wp2_with fail
              refine hK.out _ _ ?_ (fun hHeldX => ?_)
              · exact ⟨hst.x.box.at (o := 0) rfl, hst.x.box.at (o := 1) rfl, hst.y.box.at (o := 0) rfl, hst.y.box.at (o := 1) rfl, hst.z.box.at (o := 0) rfl, hst.z.box.at (o := 1) rfl⟩
              clear hK K hHeld
              rename _ => hHeld
              try simp only [Act.put, List.setIfInBounds_toArray, List.set_cons_zero, List.set_cons_succ]
              refine wpAnyH_ready (rs := [29]) (by kernel_rfl) (by simp) ?_
              refine AllReadyH.cons (o := ⟨some 135, _, _, _, _, _⟩) rfl (fun K hK => ?_) AllReadyH.nil
              go_simp
              refine (hst.y.at_.size HQ.out.2.1).mono ?_
              rintro e wx ⟨rfl, hBx⟩
              replace hst := hst.below hBx
              rw [HSY.out]
              clear hBx
              go_wp2_with fail
              refine hK.out _ _ ?_ (fun hHeldX => ?_)
              · exact ⟨hst.x.box.at (o := 0) rfl, hst.x.box.at (o := 1) rfl, hst.y.box.at (o := 0) rfl, hst.y.box.at (o := 1) rfl, hst.z.box.at (o := 0) rfl, hst.z.box.at (o := 1) rfl⟩
              clear hK K hHeld
              rename _ => hHeld
              try simp only [Act.put, List.setIfInBounds_toArray, List.set_cons_zero, List.set_cons_succ]
              refine wpAnyH_take (i := 30) (oi := ⟨some 136, _, _, _, _, _⟩) (v := ?_) rfl (by kernel_rfl) (by kernel_rfl) (by kernel_rfl) (fun _ _ _ h => h) (Or.inl ⟨by rfl, ?_⟩) (by assumption) ?_
              rotate_left
              · (intro w hSw; (try dsimp only at hSw); go_simp; try with_reducible rfl)
              try simp only [Act.put, List.setIfInBounds_toArray, List.set_cons_zero, List.set_cons_succ]
              refine wpAnyH_take (i := 31) (oi := ⟨some 137, _, _, _, _, _⟩) (v := ?_) rfl (by kernel_rfl) (by kernel_rfl) (by kernel_rfl) (fun _ _ _ h => h) (Or.inl ⟨by rfl, ?_⟩) (by assumption) ?_
              rotate_left
              · (intro w hSw; (try dsimp only at hSw); go_simp; try with_reducible rfl)
              try simp only [Act.put, List.setIfInBounds_toArray, List.set_cons_zero, List.set_cons_succ]
              refine wpAnyH_take (i := 32) (oi := ⟨some 138, _, _, _, _, _⟩) (v := ?_) rfl (by kernel_rfl) (by kernel_rfl) (by kernel_rfl) (fun _ _ _ h => h) (Or.inl ⟨by rfl, ?_⟩) (by assumption) ?_
              rotate_left
              · (intro w hSw; (try dsimp only at hSw); go_simp; try with_reducible rfl)
              try simp only [Act.put, List.setIfInBounds_toArray, List.set_cons_zero, List.set_cons_succ]
              refine wpAnyH_take (i := 33) (oi := ⟨some 139, _, _, _, _, _⟩) (v := ?_) rfl (by kernel_rfl) (by kernel_rfl) (by kernel_rfl) (fun _ _ _ h => h) (Or.inl ⟨by rfl, ?_⟩) (by assumption) ?_
              rotate_left
              · (intro w hSw; (try dsimp only at hSw); go_simp; try with_reducible rfl)
              try simp only [Act.put, List.setIfInBounds_toArray, List.set_cons_zero, List.set_cons_succ]
              refine wpAnyH_take (i := 34) (oi := ⟨some 140, _, _, _, _, _⟩) (v := ?_) rfl (by kernel_rfl) (by kernel_rfl) (by kernel_rfl) (fun _ _ _ h => h) (Or.inl ⟨by rfl, ?_⟩) (by assumption) ?_
              rotate_left
              · (intro w hSw; (try dsimp only at hSw); go_simp; try with_reducible rfl)
              try simp only [Act.put, List.setIfInBounds_toArray, List.set_cons_zero, List.set_cons_succ]
              refine wpAnyH_take (i := 36) (oi := ⟨some 142, _, _, _, _, _⟩) (v := ?_) rfl (by kernel_rfl) (by kernel_rfl) (by kernel_rfl) (fun _ _ _ h => h) (Or.inl ⟨by rfl, ?_⟩) (by assumption) ?_
              rotate_left
              · (intro w hSw; (try dsimp only at hSw); go_simp; try with_reducible rfl)
              try simp only [Act.put, List.setIfInBounds_toArray, List.set_cons_zero, List.set_cons_succ]
              refine wpAnyH_take (i := 38) (oi := ⟨some 144, _, _, _, _, _⟩) (v := ?_) rfl (by kernel_rfl) (by kernel_rfl) (by kernel_rfl) (fun _ _ _ h => h) (Or.inl ⟨by rfl, ?_⟩) (by assumption) ?_
              rotate_left
              · (intro w hSw; (try dsimp only at hSw); go_simp; try with_reducible rfl)
              try simp only [Act.put, List.setIfInBounds_toArray, List.set_cons_zero, List.set_cons_succ]
              refine wpAnyH_ready (rs := [35]) (by kernel_rfl) (by simp) ?_
              refine AllReadyH.cons (o := ⟨some 141, _, _, _, _, _⟩) rfl (fun K hK => ?_) AllReadyH.nil
              go_simp
              refine (hst.z.at_.size HQ.out.2.2).mono ?_
              rintro e wx ⟨rfl, hBx⟩
              replace hst := hst.below hBx
              rw [HSZ.out]
              clear hBx
              go_wp2_with fail
              refine hK.out _ _ ?_ (fun hHeldX => ?_)
              · exact ⟨hst.x.box.at (o := 0) rfl, hst.x.box.at (o := 1) rfl, hst.y.box.at (o := 0) rfl, hst.y.box.at (o := 1) rfl, hst.z.box.at (o := 0) rfl, hst.z.box.at (o := 1) rfl⟩
              clear hK K hHeld
              rename _ => hHeld
              try simp only [Act.put, List.setIfInBounds_toArray, List.set_cons_zero, List.set_cons_succ]
              refine wpAnyH_ready (rs := [37]) (by kernel_rfl) (by simp) ?_
              refine AllReadyH.cons (o := ⟨some 143, _, _, _, _, _⟩) rfl (fun K hK => ?_) AllReadyH.nil
              go_simp
              refine (hst.x.at_.size HQ.out.1).mono ?_
              rintro e wx ⟨rfl, hBx⟩
              replace hst := hst.below hBx
              rw [HSX.out]
              clear hBx
              go_wp2_with fail
              refine hK.out _ _ ?_ (fun hHeldX => ?_)
              · exact ⟨hst.x.box.at (o := 0) rfl, hst.x.box.at (o := 1) rfl, hst.y.box.at (o := 0) rfl, hst.y.box.at (o := 1) rfl, hst.z.box.at (o := 0) rfl, hst.z.box.at (o := 1) rfl⟩
              clear hK K hHeld
              rename _ => hHeld
              try simp only [Act.put, List.setIfInBounds_toArray, List.set_cons_zero, List.set_cons_succ]
              refine wpAnyH_ready (rs := [39]) (by kernel_rfl) (by simp) ?_
              refine AllReadyH.cons (o := ⟨some 145, _, _, _, _, _⟩) rfl (fun K hK => ?_) AllReadyH.nil
              go_simp
              refine (hst.y.at_.size HQ.out.2.1).mono ?_
              rintro e wx ⟨rfl, hBx⟩
              replace hst := hst.below hBx
              rw [HSY.out]
              clear hBx
              go_wp2_with fail
              refine hK.out _ _ ?_ (fun hHeldX => ?_)
              · exact ⟨hst.x.box.at (o := 0) rfl, hst.x.box.at (o := 1) rfl, hst.y.box.at (o := 0) rfl, hst.y.box.at (o := 1) rfl, hst.z.box.at (o := 0) rfl, hst.z.box.at (o := 1) rfl⟩
              clear hK K hHeld
              rename _ => hHeld
              try simp only [Act.put, List.setIfInBounds_toArray, List.set_cons_zero, List.set_cons_succ]
              refine wpAnyH_take (i := 40) (oi := ⟨some 146, _, _, _, _, _⟩) (v := ?_) rfl (by kernel_rfl) (by kernel_rfl) (by kernel_rfl) (fun _ _ _ h => h) (Or.inl ⟨by rfl, ?_⟩) (by assumption) ?_
              rotate_left
              · (intro w hSw; (try dsimp only at hSw); go_simp; try with_reducible rfl)
              try simp only [Act.put, List.setIfInBounds_toArray, List.set_cons_zero, List.set_cons_succ]
              refine wpAnyH_take (i := 41) (oi := ⟨some 147, _, _, _, _, _⟩) (v := ?_) rfl (by kernel_rfl) (by kernel_rfl) (by kernel_rfl) (fun _ _ _ h => h) (Or.inl ⟨by rfl, ?_⟩) (by assumption) ?_
              rotate_left
              · (intro w hSw; (try dsimp only at hSw); go_simp; try with_reducible rfl)
              try simp only [Act.put, List.setIfInBounds_toArray, List.set_cons_zero, List.set_cons_succ]
              refine wpAnyH_take (i := 42) (oi := ⟨some 148, _, _, _, _, _⟩) (v := ?_) rfl (by kernel_rfl) (by kernel_rfl) (by kernel_rfl) (fun _ _ _ h => h) (Or.inl ⟨by rfl, ?_⟩) (by assumption) ?_
              rotate_left
              · (intro w hSw; (try dsimp only at hSw); go_simp; try with_reducible rfl)
              try simp only [Act.put, List.setIfInBounds_toArray, List.set_cons_zero, List.set_cons_succ]
              refine wpAnyH_take (i := 43) (oi := ⟨some 6, _, _, _, _, _⟩) (v := ?_) rfl (by kernel_rfl) (by kernel_rfl) (by kernel_rfl) (fun _ _ _ h => h) (Or.inl ⟨by rfl, ?_⟩) (by assumption) ?_
              rotate_left
              · (intro w hSw; (try dsimp only at hSw); go_simp; try with_reducible rfl)
              try simp only [Act.put, List.setIfInBounds_toArray, List.set_cons_zero, List.set_cons_succ]
              refine wpAnyH_done (by kernel_rfl) ?_ _
              refine NoPanic.normal ?_
              have HB := Lib.hid (below_step B1.out hst.low)
              clear hst hHeld
              go_wp2
              go_ret
              exact ⟨by simp, HB.out⟩
end Go.Proofs.Ytmfejpbijllojaa
