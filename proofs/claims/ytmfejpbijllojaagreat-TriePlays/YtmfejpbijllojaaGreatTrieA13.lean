/- Layer 13 (package trie): Add and Drop. Made by tools/gen_triea13.py. -/
import Derived.Test.YtmfejpbijllojaaGreatTrieC13
import Derived.Test.YtmfejpbijllojaaGreatTrieH13
namespace Go.Proofs.YtmfejpbijllojaaGreat
open Go.RowKit Go.Shelf

def addZ (P : List Pr) (f : Key) (s : Int) : List Pr := if filterZ f = true ∧ (f, s) ∉ P then P ++ [(f, s)] else P
def addE (P : List Pr) (f : Key) (s : Int) : Int := if filterZ f = true then (if (f, s) ∈ P then 5 else 0) else 3
def dropZ (P : List Pr) (f : Key) (s : Int) : List Pr := if filterZ f = true ∧ (f, s) ∈ P then woP P (f, s) else P
def dropK (P : List Pr) (f : Key) (s : Int) : Int := if filterZ f = true then (if (f, s) ∈ P then 0 else 6) else 3
theorem TrOk.n4 {o : Nd} {P : List Pr} (h : TrOk o P) (hP : P.length ≤ 110) : ndN o ≤ 3700 := by have := h.small; omega
theorem TrOk.l1 {o : Nd} {P : List Pr} (h : TrOk o P) (hP : P.length ≤ 110) (p : List Key) : (subZ o p).length ≤ 1000 := by have := h.len p; omega
theorem twoC (w : World) (q : Option Addr) (n : Int) : ∃ W, (w.alloc (.cells #[.pointer q, .int .i64 n] 28)).alloc (.cells #[.pointer none, .int .i64 0] 28) = W ∧ Below w.heap.size w W ∧ W.heap.size = w.heap.size + 2 ∧ Blk 28 W w.heap.size [.pointer q, .int .i64 n] ∧ Blk 28 W (w.heap.size + 1) [.pointer none, .int .i64 0] := by
  refine ⟨_, rfl, below_step (new_below _ _) (new_below _ _), by simp, Blk.alloc Blk.new _, ?_⟩
  have := Blk.new (W := w.alloc (.cells #[.pointer q, .int .i64 n] 28)) (t := 28) (l := [.pointer none, .int .i64 0])
  rw [World.size_alloc] at this; exact this

theorem blk_put2 {t : TypeId} {W : World} {B : Nat} {x y : Value} (h : Blk t W B [x, y]) (u v : Value) : Blk t ((W.setCell ⟨B, 0, none⟩ u).setCell ⟨B, 1, none⟩ v) B [u, v] := by
  simpa using (h.set 0 u).set 1 v
theorem only_put2 (W : World) (B : Nat) (u v : Value) : Only (fun k => k = B) W ((W.setCell ⟨B, 0, none⟩ u).setCell ⟨B, 1, none⟩ v) :=
  ((Only.refl (fun k => k = B) W).setCell (p := ⟨B, 0, none⟩) (.inl rfl) u).setCell (p := ⟨B, 1, none⟩) (.inl rfl) v
theorem put2 {S : Nat → Prop} {w W : World} {B : Nat} {o' : Nd} {x y : Value} (hb : Blk 28 W B [x, y]) (hn : NodeIs (fun k => S k ∨ k = B) W o') (hB : w.heap.size ≤ B) (hl : Below w.heap.size w W) (u v : Value) :
    ((W.setCell ⟨B, 0, none⟩ u).setCell ⟨B, 1, none⟩ v).cell? ⟨B, 0, none⟩ = some u ∧ ((W.setCell ⟨B, 0, none⟩ u).setCell ⟨B, 1, none⟩ v).cell? ⟨B, 1, none⟩ = some v ∧ NodeIs S ((W.setCell ⟨B, 0, none⟩ u).setCell ⟨B, 1, none⟩ v) o' ∧ Below w.heap.size w ((W.setCell ⟨B, 0, none⟩ u).setCell ⟨B, 1, none⟩ v) := by
  have h := blk_put2 hb u v
  exact ⟨h.at (o := 0) rfl, h.at (o := 1) rfl, hn.turn (only_put2 W B u v) (fun k e => .inr e) (fun k _ e => .inl e), (hl.setCell (p := ⟨B, 0, none⟩) hB u).setCell (p := ⟨B, 1, none⟩) hB v⟩

set_option maxRecDepth 100000 in
set_option maxHeartbeats 2000000 in
theorem tr_add_bad (o : Nd) (n : Nat) (f : ByteArray) (s : Int) (w : World) (hf : filterZ f.data.toList = false) :
    Calls Tryz.prog 9 #[trV o n, .string f, .int .i64 s] w fun e w' => e = .returned (.tuple #[trV o n, .int .i64 3]) ∧ Below w.heap.size w w' := by
  have HF : Hid (∀ W, Calls Tryz.prog 20 #[.string f] W fun e w' => e = .returned (.bool false) ∧ Below W.heap.size W w') := Lib.hid fun W => by
    have := topic_Filter f W
    rw [hf] at this; exact this
  unfold trV
  clear hf
  generalize pA o = q at *
  go_enter Tryz.func9, Tryz.ntmps9
  go_wp2_with fail
  obtain ⟨W2, hW2, B2, z2, b0, b1⟩ := twoC w q n
  rw [hW2]
  clear hW2
  refine (HF.out _).mono ?_
  rintro e w3 ⟨rfl, hB3⟩
  have B3 := Lib.hid (below_step B2 hB3)
  have c0 := b0.below hB3 b0.lt
  have c1 := b1.below hB3 b1.lt
  have k0 := c0.at (o := 0) rfl
  have k1 := c0.at (o := 1) rfl
  have f1 := c1.frozen 0
  have f2 := c1.frozen 1
  have m0 := c1.at (o := 0) rfl
  have m1 := c1.at (o := 1) rfl
  have HE1 := Lib.hid c1
  clear hB3 b0 b1 B2 z2 c0 c1 HF
  go_wp2
  have hr := blk_put2 HE1.out (.pointer q) (.int .i64 (n : Int))
  have r0 := hr.at (o := 0) rfl
  have r1 := hr.at (o := 1) rfl
  refine bodyPost_ret (by simp [results, Tryz.f9, go_sem, r0, r1]; rfl) rfl ?_
  exact ⟨rfl, (B3.out.setCell (p := ⟨w.heap.size + 1, 0, none⟩) (Nat.le_succ _) _).setCell (p := ⟨w.heap.size + 1, 1, none⟩) (Nat.le_succ _) _⟩
set_option maxRecDepth 100000 in
set_option maxHeartbeats 2000000 in
theorem tr_add_same {S : Nat → Prop} {o : Nd} {P : List Pr} (f : ByteArray) (s : Int) (w : World) (ho : NodeIs S w o) (h : TrOk o P) (hP : P.length ≤ 110) (hf : filterZ f.data.toList = true) (hn : (f.data.toList, s) ∈ P) :
    Calls Tryz.prog 9 #[trV o P.length, .string f, .int .i64 s] w fun e w' => e = .returned (.tuple #[trV o P.length, .int .i64 5]) ∧ Below w.heap.size w w' := by
  have hfs : f.size ≤ 1048576 := by have := (size_of_bytes (filterZ_bytes hf)).2; omega
  have HF : Hid (∀ W, Calls Tryz.prog 20 #[.string f] W fun e w' => e = .returned (.bool true) ∧ Below W.heap.size W w') := Lib.hid fun W => by
    have := topic_Filter f W
    rw [hf] at this; exact this
  have HH : Hid (∀ W, Below w.heap.size w W → Calls Tryz.prog 12 #[.agg #[.pointer (pA o), .int .i64 (P.length : Int)], .string f, .int .i64 s] W fun e w' => e = .returned (.bool true) ∧ Below W.heap.size W w') := Lib.hid fun W hW => by
    have := tr_Has o P.length f s W (ho.below hW) (by have := h.n4 hP; omega) (h.l1 hP) hfs
    rw [decide_eq_true (h.mem.2 hn)] at this; exact this
  unfold trV
  clear ho h hf hn
  generalize pA o = q at *
  generalize P.length = n at *
  go_enter Tryz.func9, Tryz.ntmps9
  go_wp2_with fail
  obtain ⟨W2, hW2, B2, z2, b0, b1⟩ := twoC w q n
  rw [hW2]
  clear hW2
  refine (HF.out _).mono ?_
  rintro e w3 ⟨rfl, hB3⟩
  have B3 := Lib.hid (below_step B2 hB3)
  have c0 := b0.below hB3 b0.lt
  have c1 := b1.below hB3 b1.lt
  have k0 := c0.at (o := 0) rfl
  have k1 := c0.at (o := 1) rfl
  clear hB3 b0 b1 B2 z2
  go_wp2_with fail
  refine (HH.out _ B3.out).mono ?_
  rintro e w4 ⟨rfl, hB4⟩
  have B4 := Lib.hid (below_step B3.out hB4)
  have d0 := c0.below hB4 c0.lt
  have d1 := c1.below hB4 c1.lt
  clear hB4 c0 c1 k0 k1 B3 HF HH
  have k0 := d0.at (o := 0) rfl
  have k1 := d0.at (o := 1) rfl
  have f1 := d1.frozen 0
  have f2 := d1.frozen 1
  have m0 := d1.at (o := 0) rfl
  have m1 := d1.at (o := 1) rfl
  have HE1 := Lib.hid d1
  clear d0 d1
  go_wp2
  have hr := blk_put2 HE1.out (.pointer q) (.int .i64 (n : Int))
  have r0 := hr.at (o := 0) rfl
  have r1 := hr.at (o := 1) rfl
  refine bodyPost_ret (by simp [results, Tryz.f9, go_sem, r0, r1]; rfl) rfl ?_
  exact ⟨rfl, (B4.out.setCell (p := ⟨w.heap.size + 1, 0, none⟩) (Nat.le_succ _) _).setCell (p := ⟨w.heap.size + 1, 1, none⟩) (Nat.le_succ _) _⟩
set_option maxRecDepth 100000 in
set_option maxHeartbeats 2000000 in
theorem tr_drop_bad (o : Nd) (n : Nat) (f : ByteArray) (s : Int) (w : World) (hf : filterZ f.data.toList = false) :
    Calls Tryz.prog 7 #[trV o n, .string f, .int .i64 s] w fun e w' => e = .returned (.tuple #[trV o n, .int .i64 3]) ∧ Below w.heap.size w w' := by
  have HF : Hid (∀ W, Calls Tryz.prog 20 #[.string f] W fun e w' => e = .returned (.bool false) ∧ Below W.heap.size W w') := Lib.hid fun W => by
    have := topic_Filter f W
    rw [hf] at this; exact this
  unfold trV
  clear hf
  generalize pA o = q at *
  go_enter Tryz.func7, Tryz.ntmps7
  go_wp2_with fail
  obtain ⟨W2, hW2, B2, z2, b0, b1⟩ := twoC w q n
  rw [hW2]
  clear hW2
  refine (HF.out _).mono ?_
  rintro e w3 ⟨rfl, hB3⟩
  have B3 := Lib.hid (below_step B2 hB3)
  have c0 := b0.below hB3 b0.lt
  have c1 := b1.below hB3 b1.lt
  have k0 := c0.at (o := 0) rfl
  have k1 := c0.at (o := 1) rfl
  have f1 := c1.frozen 0
  have f2 := c1.frozen 1
  have m0 := c1.at (o := 0) rfl
  have m1 := c1.at (o := 1) rfl
  have HE1 := Lib.hid c1
  clear hB3 b0 b1 B2 z2 c0 c1 HF
  go_wp2
  have hr := blk_put2 HE1.out (.pointer q) (.int .i64 (n : Int))
  have r0 := hr.at (o := 0) rfl
  have r1 := hr.at (o := 1) rfl
  refine bodyPost_ret (by simp [results, Tryz.f7, go_sem, r0, r1]; rfl) rfl ?_
  exact ⟨rfl, (B3.out.setCell (p := ⟨w.heap.size + 1, 0, none⟩) (Nat.le_succ _) _).setCell (p := ⟨w.heap.size + 1, 1, none⟩) (Nat.le_succ _) _⟩
set_option maxRecDepth 100000 in
set_option maxHeartbeats 2000000 in
theorem tr_drop_same {S : Nat → Prop} {o : Nd} {P : List Pr} (f : ByteArray) (s : Int) (w : World) (ho : NodeIs S w o) (h : TrOk o P) (hP : P.length ≤ 110) (hf : filterZ f.data.toList = true) (hn : (f.data.toList, s) ∉ P) :
    Calls Tryz.prog 7 #[trV o P.length, .string f, .int .i64 s] w fun e w' => e = .returned (.tuple #[trV o P.length, .int .i64 6]) ∧ Below w.heap.size w w' := by
  have hfs : f.size ≤ 1048576 := by have := (size_of_bytes (filterZ_bytes hf)).2; omega
  have HF : Hid (∀ W, Calls Tryz.prog 20 #[.string f] W fun e w' => e = .returned (.bool true) ∧ Below W.heap.size W w') := Lib.hid fun W => by
    have := topic_Filter f W
    rw [hf] at this; exact this
  have HH : Hid (∀ W, Below w.heap.size w W → Calls Tryz.prog 12 #[.agg #[.pointer (pA o), .int .i64 (P.length : Int)], .string f, .int .i64 s] W fun e w' => e = .returned (.bool false) ∧ Below W.heap.size W w') := Lib.hid fun W hW => by
    have := tr_Has o P.length f s W (ho.below hW) (by have := h.n4 hP; omega) (h.l1 hP) hfs
    rw [decide_eq_false (fun e => hn (h.mem.1 e))] at this; exact this
  unfold trV
  clear ho h hf hn
  generalize pA o = q at *
  generalize P.length = n at *
  go_enter Tryz.func7, Tryz.ntmps7
  go_wp2_with fail
  obtain ⟨W2, hW2, B2, z2, b0, b1⟩ := twoC w q n
  rw [hW2]
  clear hW2
  refine (HF.out _).mono ?_
  rintro e w3 ⟨rfl, hB3⟩
  have B3 := Lib.hid (below_step B2 hB3)
  have c0 := b0.below hB3 b0.lt
  have c1 := b1.below hB3 b1.lt
  have k0 := c0.at (o := 0) rfl
  have k1 := c0.at (o := 1) rfl
  clear hB3 b0 b1 B2 z2
  go_wp2_with fail
  refine (HH.out _ B3.out).mono ?_
  rintro e w4 ⟨rfl, hB4⟩
  have B4 := Lib.hid (below_step B3.out hB4)
  have d0 := c0.below hB4 c0.lt
  have d1 := c1.below hB4 c1.lt
  clear hB4 c0 c1 k0 k1 B3 HF HH
  have k0 := d0.at (o := 0) rfl
  have k1 := d0.at (o := 1) rfl
  have f1 := d1.frozen 0
  have f2 := d1.frozen 1
  have m0 := d1.at (o := 0) rfl
  have m1 := d1.at (o := 1) rfl
  have HE1 := Lib.hid d1
  clear d0 d1
  go_wp2
  have hr := blk_put2 HE1.out (.pointer q) (.int .i64 (n : Int))
  have r0 := hr.at (o := 0) rfl
  have r1 := hr.at (o := 1) rfl
  refine bodyPost_ret (by simp [results, Tryz.f7, go_sem, r0, r1]; rfl) rfl ?_
  exact ⟨rfl, (B4.out.setCell (p := ⟨w.heap.size + 1, 0, none⟩) (Nat.le_succ _) _).setCell (p := ⟨w.heap.size + 1, 1, none⟩) (Nat.le_succ _) _⟩
set_option maxRecDepth 100000 in
set_option maxHeartbeats 4000000 in
theorem tr_add_new {S : Nat → Prop} {o : Nd} {P : List Pr} (f : ByteArray) (s : Int) (w : World) (hS : ∀ k, w.heap.size ≤ k → ¬ S k) (ho : NodeIs S w o) (h : TrOk o P) (hP : P.length ≤ 110) (hf : filterZ f.data.toList = true) (hn : (f.data.toList, s) ∉ P) :
    Calls Tryz.prog 9 #[trV o P.length, .string f, .int .i64 s] w fun e w' => ∃ o', e = .returned (.tuple #[trV o' (P ++ [(f.data.toList, s)]).length, .int .i64 0]) ∧ NodeIs S w' o' ∧ Chg (withZ s) (lv f.data.toList) o o' ∧ Below w.heap.size w w' := by
  have hfs : f.size ≤ 1048576 := by have := (size_of_bytes (filterZ_bytes hf)).2; omega
  have hls := lv_small hf
  have HLv : Hid (∀ W, Calls Tryz.prog 22 #[.string f] W fun e w' => ∃ g cap, e = .returned (.slice (some ⟨g, 0, none⟩) (lv f.data.toList).length cap) ∧ (lv f.data.toList).length ≤ cap ∧ TextsIn w' (some ⟨g, 0, none⟩) (lv f.data.toList) ∧ Below W.heap.size W w') := Lib.hid fun W =>
    (topic_Levels_cap f W hfs).mono fun e wx ⟨g, cap, h1, _, h3, h4, h5, h6⟩ => ⟨g, cap, h1, h4, fun i x hx => ⟨g, 0, rfl, h3, by rw [Nat.zero_add]; exact h5 i x hx⟩, h6⟩
  have HF : Hid (∀ W, Calls Tryz.prog 20 #[.string f] W fun e w' => e = .returned (.bool true) ∧ Below W.heap.size W w') := Lib.hid fun W => by
    have := topic_Filter f W
    rw [hf] at this; exact this
  have HH : Hid (∀ W, Below w.heap.size w W → Calls Tryz.prog 12 #[.agg #[.pointer (pA o), .int .i64 (P.length : Int)], .string f, .int .i64 s] W fun e w' => e = .returned (.bool false) ∧ Below W.heap.size W w') := Lib.hid fun W hW => by
    have := tr_Has o P.length f s W (ho.below hW) (by have := h.n4 hP; omega) (h.l1 hP) hfs
    rw [decide_eq_false (fun e => hn (h.mem.1 e))] at this; exact this
  have HCh : Hid (∀ (a : Option Addr) (cap : Nat) W, Below w.heap.size w W → w.heap.size + 1 < W.heap.size → TextsIn W a (lv f.data.toList) → (lv f.data.toList).length ≤ cap → Calls Tryz.prog 21 #[.pointer (pA o), .slice a (lv f.data.toList).length cap, .int .i64 s, .func (.func 26) #[] #[]] W fun e w' =>
      ∃ o', e = .returned (.pointer (pA o')) ∧ Chg (withZ s) (lv f.data.toList) o o' ∧ NodeIs (fun k => S k ∨ k = w.heap.size + 1) w' o' ∧ Below W.heap.size W w') := Lib.hid fun a cap W hW hz hT hc => by
    have := tr_changed (S := fun k => S k ∨ k = w.heap.size + 1) 26 s (withZ s) (.inl ⟨rfl, rfl⟩) (lv f.data.toList) o a cap W (fun j hj e => e.elim (hS j (Nat.le_trans hW.size hj)) (fun e => by omega)) (ho.turn (Only.of_below hW (fun _ => False)) (fun _ h => h.elim) (fun k hk e => e.elim id (fun e => by omega))) h.ok (h.l1 hP) (by have := h.n4 hP; omega) hT hc
    rw [ndP_ptr] at this
    exact this.mono fun e w' ⟨o', h1, h2⟩ => ⟨o', by rw [h1, ndP_ptr], h2⟩
  have hlen : (P ++ [(f.data.toList, s)]).length = P.length + 1 := by simp
  have hi : IntKind.i64.wrap ((P.length : Int) + 1) = (P.length : Int) + 1 := IntWalk.i64_in _ (by omega)
  have HI := Lib.hid hi
  rw [hlen]
  unfold trV
  clear hS ho h hf hn hls hi hlen
  generalize pA o = q at *
  generalize P.length = n at *
  generalize lv f.data.toList = ls at *
  go_enter Tryz.func9, Tryz.ntmps9
  go_wp2_with fail
  obtain ⟨W2, hW2, B2, z2, b0, b1⟩ := twoC w q n
  rw [hW2]
  clear hW2
  refine (HF.out _).mono ?_
  rintro e w3 ⟨rfl, hB3⟩
  have B3 := Lib.hid (below_step B2 hB3)
  have c0 := b0.below hB3 b0.lt
  have c1 := b1.below hB3 b1.lt
  have k0 := c0.at (o := 0) rfl
  have k1 := c0.at (o := 1) rfl
  clear hB3 b0 b1 B2 z2
  go_wp2_with fail
  refine (HH.out _ B3.out).mono ?_
  rintro e w4 ⟨rfl, hB4⟩
  have B4 := Lib.hid (below_step B3.out hB4)
  have d0 := c0.below hB4 c0.lt
  have d1 := c1.below hB4 c1.lt
  clear hB4 c0 c1 k0 k1 B3
  go_upto_region 5 with fail
  have hC : Below w4.heap.size w4 w4.drew := (Below.refl _ _).drew
  have HX : Hid (∀ W, Below w4.heap.size w4 W → W.cell? ⟨w.heap.size, 0, none⟩ = some (.pointer q)) := Lib.hid fun W hW => (d0.below hW d0.lt).at (o := 0) rfl
  have HD := Lib.hid (And.intro d0 d1)
  clear d0 d1
  refine wp_region_noPanic ?_
  refine wp_region_held_drew (S := (fun w' => w'.cell? ⟨w.heap.size, 0, none⟩ = some (.pointer q))) (by kernel_rfl) ?_ (fun hHeld => ?_)
  · exact HX.out _ hC
  refine wpAnyH_take (i := 0) (oi := ⟨some 18, _, _, _, _, _⟩) (v := ?_) rfl (by kernel_rfl) (by kernel_rfl) (by kernel_rfl) (fun _ _ _ h => h) (Or.inl ⟨by rfl, ?_⟩) (by assumption) ?_
  rotate_left
  · (intro w hSw; (try dsimp only at hSw); go_simp; try with_reducible rfl)
  try simp only [Act.put, List.setIfInBounds_toArray, List.set_cons_zero, List.set_cons_succ]
  refine wpAnyH_take (i := 1) (oi := ⟨some 19, _, _, _, _, _⟩) (v := ?_) rfl (by kernel_rfl) (by kernel_rfl) (by kernel_rfl) (fun _ _ _ h => h) (Or.inl ⟨by rfl, ?_⟩) (by assumption) ?_
  rotate_left
  · (intro w hSw; (try dsimp only at hSw); go_simp; try with_reducible rfl)
  try simp only [Act.put, List.setIfInBounds_toArray, List.set_cons_zero, List.set_cons_succ]
  refine wpAnyH_take (i := 2) (oi := ⟨some 20, _, _, _, _, _⟩) (v := ?_) rfl (by kernel_rfl) (by kernel_rfl) (by kernel_rfl) (fun _ _ _ h => h) (Or.inl ⟨by rfl, ?_⟩) (by assumption) ?_
  rotate_left
  · (intro w hSw; (try dsimp only at hSw); go_simp; try with_reducible rfl)
  try simp only [Act.put, List.setIfInBounds_toArray, List.set_cons_zero, List.set_cons_succ]
  refine wpAnyH_take (i := 4) (oi := ⟨some 22, _, _, _, _, _⟩) (v := ?_) rfl (by kernel_rfl) (by kernel_rfl) (by kernel_rfl) (fun _ _ _ h => h) (Or.inl ⟨by rfl, ?_⟩) (by assumption) ?_
  rotate_left
  · (intro w hSw; (try dsimp only at hSw); go_simp; try with_reducible rfl)
  try simp only [Act.put, List.setIfInBounds_toArray, List.set_cons_zero, List.set_cons_succ]
  refine wpAnyH_ready (rs := [3]) (by kernel_rfl) (by simp) ?_
  refine AllReadyH.cons (o := ⟨some 21, _, _, _, _, _⟩) rfl (fun K hK => ?_) AllReadyH.nil
  go_simp
  refine (HLv.out _).mono ?_
  rintro e wx ⟨g, cap, rfl, hcap, hT, hBx⟩
  have HT := Lib.hid hT
  replace hC := below_step hC hBx
  clear hBx hT
  go_wp2_with fail
  refine hK.out _ _ ?_ (fun hHeldX => ?_)
  · exact HX.out _ hC
  clear hK K hHeld
  rename _ => hHeld
  try simp only [Act.put, List.setIfInBounds_toArray, List.set_cons_zero, List.set_cons_succ]
  refine wpAnyH_ready (rs := [5]) (by kernel_rfl) (by simp) ?_
  refine AllReadyH.cons (o := ⟨some 23, _, _, _, _, _⟩) rfl (fun K hK => ?_) AllReadyH.nil
  go_simp
  refine (HCh.out _ _ _ (below_step B4.out hC) (by have h1 := hC.size; have h2 := HD.out.2.lt; omega) (by first | exact HT.out | exact HT.out.below (Below.refl _ _).drew) hcap).mono ?_
  rintro e wx ⟨o', rfl, hq, hqn, hBx⟩
  have HQ := Lib.hid (And.intro hq hqn)
  replace hC := below_step hC hBx
  clear hq hqn hBx HT
  go_wp2_with fail
  refine hK.out _ _ ?_ (fun hHeldX => ?_)
  · exact HX.out _ hC
  clear hK K hHeld
  rename _ => hHeld
  try simp only [Act.put, List.setIfInBounds_toArray, List.set_cons_zero, List.set_cons_succ]
  refine wpAnyH_take (i := 6) (oi := ⟨some 8, _, _, _, _, _⟩) (v := ?_) rfl (by kernel_rfl) (by kernel_rfl) (by kernel_rfl) (fun _ _ _ h => h) (Or.inl ⟨by rfl, ?_⟩) (by assumption) ?_
  rotate_left
  · (intro w hSw; (try dsimp only at hSw); go_simp; try with_reducible rfl)
  try simp only [Act.put, List.setIfInBounds_toArray, List.set_cons_zero, List.set_cons_succ]
  refine wpAnyH_done (by kernel_rfl) ?_ _
  refine NoPanic.normal ?_
  obtain ⟨d0, d1⟩ := HD.out
  have e0 := d0.below hC d0.lt
  have e1 := d1.below hC d1.lt
  have k1 := e0.at (o := 1) rfl
  have hi := HI.out
  have HE1 := Lib.hid e1
  have f1 := e1.frozen 0
  have f2 := e1.frozen 1
  have m0 := e1.at (o := 0) rfl
  have m1 := e1.at (o := 1) rfl
  have HW := Lib.hid (below_step B4.out hC)
  obtain ⟨qq, hqq⟩ : ∃ qq, pA o' = qq := ⟨_, rfl⟩
  rw [hqq]
  have HQQ := Lib.hid hqq
  clear d0 d1 e0 e1 hC hqq
  go_wp2
  obtain ⟨r0, r1, r2, r3⟩ := put2 HE1.out HQ.out.2 (Nat.le_succ _) HW.out (.pointer qq) (.int .i64 ((n : Int) + 1))
  refine bodyPost_ret (by simp [results, Tryz.f9, go_sem, r0, r1]; rfl) rfl ?_
  exact ⟨o', by rw [HQQ.out]; rfl, r2, HQ.out.1, r3⟩

set_option maxRecDepth 100000 in
set_option maxHeartbeats 4000000 in
theorem tr_drop_old {S : Nat → Prop} {o : Nd} {P : List Pr} (f : ByteArray) (s : Int) (w : World) (hS : ∀ k, w.heap.size ≤ k → ¬ S k) (ho : NodeIs S w o) (h : TrOk o P) (hP : P.length ≤ 110) (hf : filterZ f.data.toList = true) (hn : (f.data.toList, s) ∈ P) :
    Calls Tryz.prog 7 #[trV o P.length, .string f, .int .i64 s] w fun e w' => ∃ o', e = .returned (.tuple #[trV (rootZ o') (woP P (f.data.toList, s)).length, .int .i64 0]) ∧ NodeIs S w' (rootZ o') ∧ Chg (woZ s) (lv f.data.toList) o o' ∧ Below w.heap.size w w' := by
  have hfs : f.size ≤ 1048576 := by have := (size_of_bytes (filterZ_bytes hf)).2; omega
  have hls := lv_small hf
  have HLv : Hid (∀ W, Calls Tryz.prog 22 #[.string f] W fun e w' => ∃ g cap, e = .returned (.slice (some ⟨g, 0, none⟩) (lv f.data.toList).length cap) ∧ (lv f.data.toList).length ≤ cap ∧ TextsIn w' (some ⟨g, 0, none⟩) (lv f.data.toList) ∧ Below W.heap.size W w') := Lib.hid fun W =>
    (topic_Levels_cap f W hfs).mono fun e wx ⟨g, cap, h1, _, h3, h4, h5, h6⟩ => ⟨g, cap, h1, h4, fun i x hx => ⟨g, 0, rfl, h3, by rw [Nat.zero_add]; exact h5 i x hx⟩, h6⟩
  have HF : Hid (∀ W, Calls Tryz.prog 20 #[.string f] W fun e w' => e = .returned (.bool true) ∧ Below W.heap.size W w') := Lib.hid fun W => by
    have := topic_Filter f W
    rw [hf] at this; exact this
  have HH : Hid (∀ W, Below w.heap.size w W → Calls Tryz.prog 12 #[.agg #[.pointer (pA o), .int .i64 (P.length : Int)], .string f, .int .i64 s] W fun e w' => e = .returned (.bool true) ∧ Below W.heap.size W w') := Lib.hid fun W hW => by
    have := tr_Has o P.length f s W (ho.below hW) (by have := h.n4 hP; omega) (h.l1 hP) hfs
    rw [decide_eq_true (h.mem.2 hn)] at this; exact this
  have HCh : Hid (∀ (a : Option Addr) (cap : Nat) W, Below w.heap.size w W → w.heap.size + 1 < W.heap.size → TextsIn W a (lv f.data.toList) → (lv f.data.toList).length ≤ cap → Calls Tryz.prog 21 #[.pointer (pA o), .slice a (lv f.data.toList).length cap, .int .i64 s, .func (.func 23) #[] #[]] W fun e w' =>
      ∃ o', e = .returned (.pointer (pA o')) ∧ Chg (woZ s) (lv f.data.toList) o o' ∧ NodeIs (fun k => S k ∨ k = w.heap.size + 1) w' o' ∧ Below W.heap.size W w') := Lib.hid fun a cap W hW hz hT hc => by
    have := tr_changed (S := fun k => S k ∨ k = w.heap.size + 1) 23 s (woZ s) (.inr ⟨rfl, rfl⟩) (lv f.data.toList) o a cap W (fun j hj e => e.elim (hS j (Nat.le_trans hW.size hj)) (fun e => by omega)) (ho.turn (Only.of_below hW (fun _ => False)) (fun _ h => h.elim) (fun k hk e => e.elim id (fun e => by omega))) h.ok (h.l1 hP) (by have := h.n4 hP; omega) hT hc
    rw [ndP_ptr] at this
    exact this.mono fun e w' ⟨o', h1, h2⟩ => ⟨o', by rw [h1, ndP_ptr], h2⟩
  obtain ⟨m, hm⟩ : ∃ m, (woP P (f.data.toList, s)).length = m := ⟨_, rfl⟩
  have hlen : P.length = m + 1 := by have := woP_len h.nodup hn; omega
  have hi : IntKind.i64.wrap ((P.length : Int) - 1) = (m : Int) := (IntWalk.i64_in _ (by omega)).trans (by omega)
  have hmi : ((m + 1 : Nat) : Int) - 1 = (m : Int) := by omega
  have HI := Lib.hid hmi
  rw [hm]
  unfold trV
  clear hS ho h hf hn hls hi hm hmi
  rw [hlen] at HH ⊢
  have hcast : ((m + 1 : Nat) : Int) = (m : Int) + 1 := by omega
  rw [hcast] at HH ⊢
  replace HI : Hid ((m : Int) + 1 - 1 = (m : Int)) := Lib.hid (by omega)
  have hmb : m ≤ 110 := by omega
  clear hlen hP
  generalize pA o = q at *
  generalize lv f.data.toList = ls at *
  go_enter Tryz.func7, Tryz.ntmps7
  go_wp2_with fail
  obtain ⟨W2, hW2, B2, z2, b0, b1⟩ := twoC w q ((m : Int) + 1)
  rw [hW2]
  clear hW2
  refine (HF.out _).mono ?_
  rintro e w3 ⟨rfl, hB3⟩
  have B3 := Lib.hid (below_step B2 hB3)
  have c0 := b0.below hB3 b0.lt
  have c1 := b1.below hB3 b1.lt
  have k0 := c0.at (o := 0) rfl
  have k1 := c0.at (o := 1) rfl
  clear hB3 b0 b1 B2 z2
  go_wp2_with fail
  refine (HH.out _ B3.out).mono ?_
  rintro e w4 ⟨rfl, hB4⟩
  have B4 := Lib.hid (below_step B3.out hB4)
  have d0 := c0.below hB4 c0.lt
  have d1 := c1.below hB4 c1.lt
  clear hB4 c0 c1 k0 k1 B3
  go_upto_region 5 with fail
  have hC : Below w4.heap.size w4 w4.drew := (Below.refl _ _).drew
  have HX : Hid (∀ W, Below w4.heap.size w4 W → W.cell? ⟨w.heap.size, 0, none⟩ = some (.pointer q)) := Lib.hid fun W hW => (d0.below hW d0.lt).at (o := 0) rfl
  have HD := Lib.hid (And.intro d0 d1)
  clear d0 d1
  refine wp_region_noPanic ?_
  refine wp_region_held_drew (S := (fun w' => w'.cell? ⟨w.heap.size, 0, none⟩ = some (.pointer q))) (by kernel_rfl) ?_ (fun hHeld => ?_)
  · exact HX.out _ hC
  refine wpAnyH_take (i := 0) (oi := ⟨some 19, _, _, _, _, _⟩) (v := ?_) rfl (by kernel_rfl) (by kernel_rfl) (by kernel_rfl) (fun _ _ _ h => h) (Or.inl ⟨by rfl, ?_⟩) (by assumption) ?_
  rotate_left
  · (intro w hSw; (try dsimp only at hSw); go_simp; try with_reducible rfl)
  try simp only [Act.put, List.setIfInBounds_toArray, List.set_cons_zero, List.set_cons_succ]
  refine wpAnyH_take (i := 1) (oi := ⟨some 20, _, _, _, _, _⟩) (v := ?_) rfl (by kernel_rfl) (by kernel_rfl) (by kernel_rfl) (fun _ _ _ h => h) (Or.inl ⟨by rfl, ?_⟩) (by assumption) ?_
  rotate_left
  · (intro w hSw; (try dsimp only at hSw); go_simp; try with_reducible rfl)
  try simp only [Act.put, List.setIfInBounds_toArray, List.set_cons_zero, List.set_cons_succ]
  refine wpAnyH_take (i := 2) (oi := ⟨some 21, _, _, _, _, _⟩) (v := ?_) rfl (by kernel_rfl) (by kernel_rfl) (by kernel_rfl) (fun _ _ _ h => h) (Or.inl ⟨by rfl, ?_⟩) (by assumption) ?_
  rotate_left
  · (intro w hSw; (try dsimp only at hSw); go_simp; try with_reducible rfl)
  try simp only [Act.put, List.setIfInBounds_toArray, List.set_cons_zero, List.set_cons_succ]
  refine wpAnyH_take (i := 4) (oi := ⟨some 23, _, _, _, _, _⟩) (v := ?_) rfl (by kernel_rfl) (by kernel_rfl) (by kernel_rfl) (fun _ _ _ h => h) (Or.inl ⟨by rfl, ?_⟩) (by assumption) ?_
  rotate_left
  · (intro w hSw; (try dsimp only at hSw); go_simp; try with_reducible rfl)
  try simp only [Act.put, List.setIfInBounds_toArray, List.set_cons_zero, List.set_cons_succ]
  refine wpAnyH_ready (rs := [3]) (by kernel_rfl) (by simp) ?_
  refine AllReadyH.cons (o := ⟨some 22, _, _, _, _, _⟩) rfl (fun K hK => ?_) AllReadyH.nil
  go_simp
  refine (HLv.out _).mono ?_
  rintro e wx ⟨g, cap, rfl, hcap, hT, hBx⟩
  have HT := Lib.hid hT
  replace hC := below_step hC hBx
  clear hBx hT
  go_wp2_with fail
  refine hK.out _ _ ?_ (fun hHeldX => ?_)
  · exact HX.out _ hC
  clear hK K hHeld
  rename _ => hHeld
  try simp only [Act.put, List.setIfInBounds_toArray, List.set_cons_zero, List.set_cons_succ]
  refine wpAnyH_ready (rs := [5]) (by kernel_rfl) (by simp) ?_
  refine AllReadyH.cons (o := ⟨some 24, _, _, _, _, _⟩) rfl (fun K hK => ?_) AllReadyH.nil
  go_simp
  refine (HCh.out _ _ _ (below_step B4.out hC) (by have h1 := hC.size; have h2 := HD.out.2.lt; omega) (by first | exact HT.out | exact HT.out.below (Below.refl _ _).drew) hcap).mono ?_
  rintro e wx ⟨o', rfl, hq, hqn, hBx⟩
  have HQ := Lib.hid (And.intro hq hqn)
  replace hC := below_step hC hBx
  clear hq hqn hBx HT
  go_wp2_with fail
  refine hK.out _ _ ?_ (fun hHeldX => ?_)
  · exact HX.out _ hC
  clear hK K hHeld
  rename _ => hHeld
  try simp only [Act.put, List.setIfInBounds_toArray, List.set_cons_zero, List.set_cons_succ]
  refine wpAnyH_take (i := 6) (oi := ⟨some 8, _, _, _, _, _⟩) (v := ?_) rfl (by kernel_rfl) (by kernel_rfl) (by kernel_rfl) (fun _ _ _ h => h) (Or.inl ⟨by rfl, ?_⟩) (by assumption) ?_
  rotate_left
  · (intro w hSw; (try dsimp only at hSw); go_simp; try with_reducible rfl)
  try simp only [Act.put, List.setIfInBounds_toArray, List.set_cons_zero, List.set_cons_succ]
  refine wpAnyH_done (by kernel_rfl) ?_ _
  refine NoPanic.normal ?_
  obtain ⟨d0, d1⟩ := HD.out
  have HD5 := Lib.hid (And.intro (d0.below hC d0.lt) (d1.below hC d1.lt))
  have HW5 := Lib.hid (below_step B4.out hC)
  have HNB : Hid (Calls Tryz.prog 24 #[.pointer (pA o')] wx fun e w' => e = .returned (.bool (bareB (ndL o') (ndF o'))) ∧ Below wx.heap.size wx w') := Lib.hid (by
    have := nd_Bare _ _ _ _ wx HQ.out.2.pis (bareB (ndL o') (ndF o')) (by rw [bareB_iff, fo_nil])
    rw [ndP_ptr] at this; exact this)
  have HWR : Hid (IntKind.i64.wrap ((m : Int)) = (m : Int)) := Lib.hid (IntWalk.i64_in _ (by omega))
  obtain ⟨qq, hqq⟩ : ∃ qq, pA o' = qq := ⟨_, rfl⟩
  rw [hqq] at HNB ⊢
  have HQQ := Lib.hid hqq
  clear d0 d1 hC hqq hHeld HD
  go_wp2_with fail
  refine HNB.out.mono ?_
  rintro e w6 ⟨rfl, hB6⟩
  have HD6 := Lib.hid (And.intro (HD5.out.1.below hB6 HD5.out.1.lt) (HD5.out.2.below hB6 HD5.out.2.lt))
  have HW6 := Lib.hid (below_step HW5.out hB6)
  have hN6 := Lib.hid (HQ.out.2.below hB6)
  clear hB6 HD5 HW5 HNB
  cases hbare : bareB (ndL o') (ndF o') with
  | true =>
    have hRZ : Hid (rootZ o' = none) := Lib.hid (by rw [rootZ, if_pos hbare])
    have hNR : Hid (NodeIs (fun k => S k ∨ k = w.heap.size + 1) w6 none) := Lib.hid trivial
    clear hbare
    obtain ⟨f0, f1'⟩ := HD6.out
    have k1 := f0.at (o := 1) rfl
    have hi := HI.out
    have hwr := HWR.out
    have HE1 := Lib.hid f1'
    have f1 := f1'.frozen 0
    have f2 := f1'.frozen 1
    have m0 := f1'.at (o := 0) rfl
    have m1 := f1'.at (o := 1) rfl
    clear f0 f1'
    go_wp2
    obtain ⟨r0, r1, r2, r3⟩ := put2 HE1.out (hNR.out) (Nat.le_succ _) HW6.out (.pointer none) (.int .i64 (m : Int))
    refine bodyPost_ret (by simp [results, Tryz.f7, go_sem, r0, r1]; rfl) rfl ?_
    exact ⟨o', by rw [hRZ.out]; rfl, by rw [hRZ.out]; exact r2, HQ.out.1, r3⟩
  | false =>
    have hRZ : Hid (rootZ o' = o') := Lib.hid (by rw [rootZ, if_neg (by rw [hbare]; simp)])
    have hNR := hN6
    clear hbare
    obtain ⟨f0, f1'⟩ := HD6.out
    have k1 := f0.at (o := 1) rfl
    have hi := HI.out
    have hwr := HWR.out
    have HE1 := Lib.hid f1'
    have f1 := f1'.frozen 0
    have f2 := f1'.frozen 1
    have m0 := f1'.at (o := 0) rfl
    have m1 := f1'.at (o := 1) rfl
    clear f0 f1'
    go_wp2
    obtain ⟨r0, r1, r2, r3⟩ := put2 HE1.out (hNR.out) (Nat.le_succ _) HW6.out (.pointer qq) (.int .i64 (m : Int))
    refine bodyPost_ret (by simp [results, Tryz.f7, go_sem, r0, r1]; rfl) rfl ?_
    exact ⟨o', by rw [hRZ.out, HQQ.out], by rw [hRZ.out]; exact r2, HQ.out.1, r3⟩
theorem tr_Add {S : Nat → Prop} {o : Nd} {P : List Pr} (f : ByteArray) (s : Int) (w : World) (hS : ∀ k, w.heap.size ≤ k → ¬ S k) (ho : NodeIs S w o) (h : TrOk o P) (hP : P.length ≤ 110) :
    Calls Tryz.prog 9 #[trV o P.length, .string f, .int .i64 s] w fun e w' => ∃ o', e = .returned (.tuple #[trV o' (addZ P f.data.toList s).length, .int .i64 (addE P f.data.toList s)]) ∧ NodeIs S w' o' ∧ TrOk o' (addZ P f.data.toList s) ∧ ndC o' o ≤ (lv f.data.toList).length + 1 ∧ Below w.heap.size w w' := by
  by_cases hf : filterZ f.data.toList = true
  · by_cases hn : (f.data.toList, s) ∈ P
    · refine (tr_add_same f s w ho h hP hf hn).mono ?_
      rintro e w' ⟨rfl, hB⟩
      have e1 : addZ P f.data.toList s = P := if_neg (fun e => e.2 hn)
      have e2 : addE P f.data.toList s = 5 := by rw [addE, if_pos hf, if_pos hn]
      rw [e1, e2]
      exact ⟨o, rfl, ho.below hB, h, by rw [ndC_self]; exact Nat.zero_le _, hB⟩
    · refine (tr_add_new f s w hS ho h hP hf hn).mono ?_
      rintro e w' ⟨o', rfl, h1, h2, hB⟩
      have e1 : addZ P f.data.toList s = P ++ [(f.data.toList, s)] := if_pos ⟨hf, hn⟩
      have e2 : addE P f.data.toList s = 0 := by rw [addE, if_pos hf, if_neg hn]
      rw [e1, e2]
      exact ⟨o', rfl, h1, h.add hf hn h2, chg_cnt h.ok h2, hB⟩
  · have hf' : filterZ f.data.toList = false := by simpa using hf
    refine (tr_add_bad o P.length f s w hf').mono ?_
    rintro e w' ⟨rfl, hB⟩
    have e1 : addZ P f.data.toList s = P := if_neg (fun e => hf e.1)
    have e2 : addE P f.data.toList s = 3 := by rw [addE, if_neg hf]
    rw [e1, e2]
    exact ⟨o, rfl, ho.below hB, h, by rw [ndC_self]; exact Nat.zero_le _, hB⟩
theorem rootC_le (o' o : Nd) : ndC (rootZ o') o ≤ ndC o' o := by
  unfold rootZ
  split
  · exact Nat.zero_le _
  · exact Nat.le_refl _
theorem tr_Drop {S : Nat → Prop} {o : Nd} {P : List Pr} (f : ByteArray) (s : Int) (w : World) (hS : ∀ k, w.heap.size ≤ k → ¬ S k) (ho : NodeIs S w o) (h : TrOk o P) (hP : P.length ≤ 110) :
    Calls Tryz.prog 7 #[trV o P.length, .string f, .int .i64 s] w fun e w' => ∃ o', e = .returned (.tuple #[trV o' (dropZ P f.data.toList s).length, .int .i64 (dropK P f.data.toList s)]) ∧ NodeIs S w' o' ∧ TrOk o' (dropZ P f.data.toList s) ∧ ndC o' o ≤ (lv f.data.toList).length + 1 ∧ Below w.heap.size w w' := by
  by_cases hf : filterZ f.data.toList = true
  · by_cases hn : (f.data.toList, s) ∈ P
    · refine (tr_drop_old f s w hS ho h hP hf hn).mono ?_
      rintro e w' ⟨o', rfl, h1, h2, hB⟩
      have e1 : dropZ P f.data.toList s = woP P (f.data.toList, s) := if_pos ⟨hf, hn⟩
      have e2 : dropK P f.data.toList s = 0 := by rw [dropK, if_pos hf, if_pos hn]
      rw [e1, e2]
      exact ⟨rootZ o', rfl, h1, h.dropd h2, Nat.le_trans (rootC_le _ _) (chg_cnt h.ok h2), hB⟩
    · refine (tr_drop_same f s w ho h hP hf hn).mono ?_
      rintro e w' ⟨rfl, hB⟩
      have e1 : dropZ P f.data.toList s = P := if_neg (fun e => hn e.2)
      have e2 : dropK P f.data.toList s = 6 := by rw [dropK, if_pos hf, if_neg hn]
      rw [e1, e2]
      exact ⟨o, rfl, ho.below hB, h, by rw [ndC_self]; exact Nat.zero_le _, hB⟩
  · have hf' : filterZ f.data.toList = false := by simpa using hf
    refine (tr_drop_bad o P.length f s w hf').mono ?_
    rintro e w' ⟨rfl, hB⟩
    have e1 : dropZ P f.data.toList s = P := if_neg (fun e => hf e.1)
    have e2 : dropK P f.data.toList s = 3 := by rw [dropK, if_neg hf]
    rw [e1, e2]
    exact ⟨o, rfl, ho.below hB, h, by rw [ndC_self]; exact Nat.zero_le _, hB⟩
end Go.Proofs.YtmfejpbijllojaaGreat
