/- Layer 7: HistPlays' walk. -/
import Derived.Test.YtjkabbabhfipbaaPlays7
import Derived.Deep.RegionHeld3
import Derived.Deep.Cut
namespace Go.Proofs.Ytjkabbabhfipbaa
open Go.RowKit

theorem endL_le (L : List CallZ) (now : Nat) (id : Int) (a : AnZ) : (endL L now id a).length ≤ L.length := by
  unfold endL
  split
  · rw [List.length_set]; exact Nat.le_refl _
  · exact Nat.le_refl _
theorem endN_le (L : List CallZ) (now : Nat) (id : Int) : endN L now id ≤ now + 1 := by
  unfold endN
  split <;> omega
/-- An event's cells. -/
def EvAt (w : World) (b o : Nat) (x : EvZ) : Prop := ∀ j v, (evV x)[j]? = some v → w.cell? ⟨b, o + j, none⟩ = some v
theorem EvAt.below {w wr : World} {b o : Nat} {x : EvZ} (h : EvAt w b o x) (hB : Below w.heap.size w wr) (hb : b < w.heap.size) : EvAt wr b o x := fun j v hv => (hB.cell (p := ⟨b, o + j, none⟩) hb).trans (h j v hv)
theorem ev_S {w wr : World} {b off k : Nat} {x : EvZ} (h : EvAt w b (off + k * 14) x) (hB : Below w.heap.size w wr) (hb : b < w.heap.size) : wr.cell? ⟨b, off + k * 14 + 1, none⟩ = some (numV x.th) ∧ wr.cell? ⟨b, off + k * 14 + 3, none⟩ = some (numV x.op.k) ∧ wr.cell? ⟨b, off + k * 14 + 4, none⟩ = some (numV x.op.s) ∧ wr.cell? ⟨b, off + k * 14 + 5, none⟩ = some (.string x.op.t) ∧ wr.cell? ⟨b, off + k * 14 + 6, none⟩ = some (.string x.op.p) ∧ wr.cell? ⟨b, off + k * 14 + 7, none⟩ = some (.bool x.op.keep) :=
  have c := h.below hB hb
  ⟨c 1 _ rfl, c 3 _ rfl, c 4 _ rfl, c 5 _ rfl, c 6 _ rfl, c 7 _ rfl⟩
theorem ev_T {w wr : World} {b off k : Nat} {x : EvZ} (h : EvAt w b (off + k * 14) x) (hB : Below w.heap.size w wr) (hb : b < w.heap.size) : wr.cell? ⟨b, off + k * 14 + 2, none⟩ = some (numV x.id) ∧ wr.cell? ⟨b, off + k * 14 + 8, none⟩ = some (numV x.an.e) ∧ wr.cell? ⟨b, off + k * 14 + 9, none⟩ = some (numV x.an.a) ∧ wr.cell? ⟨b, off + k * 14 + 10, none⟩ = some (numV x.an.b) ∧ wr.cell? ⟨b, off + k * 14 + 11, none⟩ = some (.string x.an.t) ∧ wr.cell? ⟨b, off + k * 14 + 12, none⟩ = some (.string x.an.p) ∧ wr.cell? ⟨b, off + k * 14 + 13, none⟩ = some (.bool x.an.kept) :=
  have c := h.below hB hb
  ⟨c 2 _ rfl, c 8 _ rfl, c 9 _ rfl, c 10 _ rfl, c 11 _ rfl, c 12 _ rfl, c 13 _ rfl⟩
theorem both_start {w wA : World} (h : Below w.heap.size w wA) : Both w ((wA.alloc (.cells #[.slice none 0 0, .map none, .int .i64 0] 59)).alloc (.cells #[.slice none 0 0, .int .i64 0] 29)) wA.heap.size (wA.heap.size + 1) [] 0 (.slice none 0 0) (.map none) (.slice none 0 0) := by
  have hs := h.size
  have o1 : Only (fun _ => False) (wA.alloc (.cells #[.slice none 0 0, .map none, .int .i64 0] 59)) ((wA.alloc (.cells #[.slice none 0 0, .map none, .int .i64 0] 59)).alloc (.cells #[.slice none 0 0, .int .i64 0] 29)) := (Only.refl _ _).alloc _
  have e := Blk.new (W := wA.alloc (.cells #[.slice none 0 0, .map none, .int .i64 0] 59)) (t := 29) (l := [.slice none 0 0, .int .i64 0])
  rw [show (wA.alloc (.cells #[.slice none 0 0, .map none, .int .i64 0] 59)).heap.size = wA.heap.size + 1 by simp] at e
  refine ⟨(LogIs.new wA w.heap.size).only o1 (fun _ _ => id), ⟨e, World.ownsRow_nil _ _ _ _⟩, ?_, ?_, (h.alloc hs _).alloc (by simp; omega) _⟩
  · rintro k (rfl | h | h) (h' | h')
    · omega
    · cases h'
    · cases h
    · cases h
    · cases h
    · cases h
  · rintro k ((rfl | h | h) | (rfl | h))
    · exact hs
    · cases h
    · cases h
    · omega
    · cases h
theorem anyOpen_take {L : List CallZ} {k : Nat} (hk : k < L.length) : anyOpen (L.take (k + 1)) = (anyOpen (L.take k) || (L[k].to == 0)) := by
  unfold anyOpen
  rw [List.take_succ_eq_append_getElem hk, List.any_append]
  simp
/-- The calls that were told may be written over. -/
structure Over (w wr : World) (Bl Bx : Nat) (L : List CallZ) (now : Nat) (cv mv xv : Value) (g n cap : Nat) : Prop where
  both : Both w wr Bl Bx L now cv mv xv
  row : ∃ cs, wr.ownsRow w.heap.size 42 15 (.slice (some ⟨g, 0, none⟩) n cap) n cs
  far : ¬ LogBlk Bl cv mv g ∧ ¬ RefBlk Bx xv g
theorem Over.cell {w wr : World} {Bl Bx now g n cap : Nat} {L : List CallZ} {cv mv xv : Value} (h : Over w wr Bl Bx L now cv mv xv g n cap) {k : Nat} (hk : k < n) : ∃ u, wr.cell? ⟨g, k * 15, none⟩ = some u ∧ wr.frozen? ⟨g, k * 15, none⟩ = false := by
  obtain ⟨cs, hr⟩ := h.row
  obtain ⟨l, cap', _, _, hB, ht, hle⟩ := own_heap hr rfl
  have hlt : k * 15 < l.length := by omega
  exact ⟨l[k * 15], hB.at (List.getElem?_eq_getElem hlt), hB.frozen _⟩
theorem Over.set {w wr : World} {Bl Bx now g n cap : Nat} {L : List CallZ} {cv mv xv : Value} (h : Over w wr Bl Bx L now cv mv xv g n cap) (k : Nat) (u : Value) : Over w (wr.setCell ⟨g, k, none⟩ u) Bl Bx L now cv mv xv g n cap := by
  obtain ⟨cs, hr⟩ := h.row
  refine ⟨h.both.only ((Only.refl (· = g) wr).setCell (p := ⟨g, k, none⟩) (.inl rfl) u) (fun j e => ?_), ⟨_, own_set hr rfl u⟩, h.far⟩
  rw [e]
  exact ⟨(hr.lt g rfl).1, h.far⟩

set_option maxHeartbeats 8000000 in
set_option maxRecDepth 100000 in
theorem law_plays {w : World} {a : Option Addr} {cap : Nat} {E : List EvZ} (hE : RecsIn 14 evV w a E) (hth : ∀ x ∈ E, wf64 x.th) :
    Calls Try.prog 3 #[.slice a E.length cap] w fun e w' => e = .returned (.bool true) ∧ Below w.heap.size w w' := by
  have H := Lib.hid hE
  have HTH := Lib.hid hth
  clear hE hth
  go_enter Try.func3, Try.ntmps3
  go_wp2_with fail
  refine (law_awake w).mono ?_
  rintro e wA ⟨rfl, hbA⟩
  by_cases hbig : 300 < E.length
  · go_wp2
    go_ret
    exact ⟨rfl, hbA⟩
  have hbig' : E.length ≤ 300 := by omega
  go_wp2_with fail
  refine (hist_New wA).mono ?_
  rintro e w1 ⟨rfl, rfl⟩
  have D0 := Lib.hid (both_start hbA)
  go_wp2_with fail
  have e1 : (wA.alloc (.cells #[.slice none 0 0, .map none, .int .i64 0] 59)).heap.size = wA.heap.size + 1 := by simp
  generalize ((wA.alloc (.cells #[.slice none 0 0, .map none, .int .i64 0] 59)).alloc (.cells #[.slice none 0 0, .int .i64 0] 29)) = w2 at D0 ⊢
  generalize wA.heap.size = Bl at D0 e1 ⊢
  obtain ⟨Bx, hBx⟩ : ∃ Bx, Bl + 1 = Bx := ⟨_, rfl⟩
  rw [hBx] at D0 ⊢
  clear hBx e1 hbA
  go_loopw [5] (fun i wr => ∃ (k : Nat) (L : List CallZ) (now : Nat) (cv mv xv : Value), k ≤ E.length ∧ i = .int .i64 k ∧ L.length ≤ k ∧ now ≤ k ∧ Hid (Both w wr Bl Bx L now cv mv xv)) (fun i _ => E.length - (intOf i).toNat)
  case atStart => exact ⟨0, [], 0, _, _, _, Nat.zero_le _, rfl, Nat.le_refl _, Nat.le_refl _, D0⟩
  case round =>
    obtain ⟨k, L, now, cv, mv, xv, hk, rfl, hLk, hnk, D2⟩ := hrel
    by_cases hlt : k < E.length
    · obtain ⟨b, off, rfl, hb, hr⟩ := H.out.at k hlt
      have ht := HTH.out E[k] (List.getElem_mem hlt)
      generalize E[k] = x at hr ht
      have XE : Hid (EvAt w b (off + k * 14) x) := Lib.hid hr
      have HT := Lib.hid ht
      have c0 : wr.cell? ⟨b, off + k * 14, none⟩ = some (.bool x.bg) := (XE.out.below D2.out.low hb) 0 _ rfl
      clear hr ht
      have D3 := Lib.hid (D2.out.drewN 1)
      cases hbg : x.bg
      · skip
        rw [hbg] at c0
        clear hbg
        go_wp2_with fail
        refine wp_region_noPanic ?_
        refine wp_region_held_drew (S := (fun w' => w'.cell? ⟨b, off + k * 14 + 2, none⟩ = some (numV x.id) ∧ w'.cell? ⟨b, off + k * 14 + 8, none⟩ = some (numV x.an.e) ∧ w'.cell? ⟨b, off + k * 14 + 9, none⟩ = some (numV x.an.a) ∧ w'.cell? ⟨b, off + k * 14 + 10, none⟩ = some (numV x.an.b) ∧ w'.cell? ⟨b, off + k * 14 + 11, none⟩ = some (.string x.an.t) ∧ w'.cell? ⟨b, off + k * 14 + 12, none⟩ = some (.string x.an.p) ∧ w'.cell? ⟨b, off + k * 14 + 13, none⟩ = some (.bool x.an.kept))) (by kernel_rfl) ?_ (fun hHeld => ?_)
        · first | exact ev_T XE.out D5.out.low hb | exact ev_T XE.out D4.out.low hb | exact ev_T XE.out D3.out.low hb
        refine wpAnyH_take (i := 0) (oi := ⟨some 57, _, _, _, _, _⟩) (v := ?_) rfl (by kernel_rfl) (by kernel_rfl) (by kernel_rfl) (fun _ _ _ h => h) (Or.inl ⟨by rfl, ?_⟩) (by assumption) ?_
        rotate_left
        · (intro w hSw; (try dsimp only at hSw); go_simp; try with_reducible rfl)
        try simp only [Act.put, List.setIfInBounds_toArray, List.set_cons_zero, List.set_cons_succ]
        refine wpAnyH_take (i := 1) (oi := ⟨some 58, _, _, _, _, _⟩) (v := ?_) rfl (by kernel_rfl) (by kernel_rfl) (by kernel_rfl) (fun _ _ _ h => h) (Or.inl ⟨by rfl, ?_⟩) (by assumption) ?_
        rotate_left
        · (intro w hSw; (try dsimp only at hSw); go_simp; try with_reducible rfl)
        try simp only [Act.put, List.setIfInBounds_toArray, List.set_cons_zero, List.set_cons_succ]
        refine wpAnyH_take (i := 2) (oi := ⟨some 59, _, _, _, _, _⟩) (v := ?_) rfl (by kernel_rfl) (by kernel_rfl) (by kernel_rfl) (fun _ _ _ h => h) (Or.inl ⟨by rfl, ?_⟩) (by assumption) ?_
        rotate_left
        · (intro w hSw; (try dsimp only at hSw); go_simp; try with_reducible rfl)
        try simp only [Act.put, List.setIfInBounds_toArray, List.set_cons_zero, List.set_cons_succ]
        refine wpAnyH_take (i := 3) (oi := ⟨some 60, _, _, _, _, _⟩) (v := ?_) rfl (by kernel_rfl) (by kernel_rfl) (by kernel_rfl) (fun _ _ _ h => h) (Or.inl ⟨by rfl, ?_⟩) (by assumption) ?_
        rotate_left
        · (intro w hSw; (try dsimp only at hSw); go_simp; try with_reducible rfl)
        try simp only [Act.put, List.setIfInBounds_toArray, List.set_cons_zero, List.set_cons_succ]
        refine wpAnyH_take (i := 4) (oi := ⟨some 61, _, _, _, _, _⟩) (v := ?_) rfl (by kernel_rfl) (by kernel_rfl) (by kernel_rfl) (fun _ _ _ h => h) (Or.inl ⟨by rfl, ?_⟩) (by assumption) ?_
        rotate_left
        · (intro w hSw; (try dsimp only at hSw); go_simp; try with_reducible rfl)
        try simp only [Act.put, List.setIfInBounds_toArray, List.set_cons_zero, List.set_cons_succ]
        refine wpAnyH_take (i := 5) (oi := ⟨some 62, _, _, _, _, _⟩) (v := ?_) rfl (by kernel_rfl) (by kernel_rfl) (by kernel_rfl) (fun _ _ _ h => h) (Or.inl ⟨by rfl, ?_⟩) (by assumption) ?_
        rotate_left
        · (intro w hSw; (try dsimp only at hSw); go_simp; try with_reducible rfl)
        try simp only [Act.put, List.setIfInBounds_toArray, List.set_cons_zero, List.set_cons_succ]
        refine wpAnyH_take (i := 6) (oi := ⟨some 63, _, _, _, _, _⟩) (v := ?_) rfl (by kernel_rfl) (by kernel_rfl) (by kernel_rfl) (fun _ _ _ h => h) (Or.inl ⟨by rfl, ?_⟩) (by assumption) ?_
        rotate_left
        · (intro w hSw; (try dsimp only at hSw); go_simp; try with_reducible rfl)
        try simp only [Act.put, List.setIfInBounds_toArray, List.set_cons_zero, List.set_cons_succ]
        refine wpAnyH_take (i := 7) (oi := ⟨some 64, _, _, _, _, _⟩) (v := ?_) rfl (by kernel_rfl) (by kernel_rfl) (by kernel_rfl) (fun _ _ _ h => h) (Or.inl ⟨by rfl, ?_⟩) (by assumption) ?_
        rotate_left
        · (intro w hSw; (try dsimp only at hSw); go_simp; try with_reducible rfl)
        try simp only [Act.put, List.setIfInBounds_toArray, List.set_cons_zero, List.set_cons_succ]
        refine wpAnyH_take (i := 8) (oi := ⟨some 65, _, _, _, _, _⟩) (v := ?_) rfl (by kernel_rfl) (by kernel_rfl) (by kernel_rfl) (fun _ _ _ h => h) (Or.inl ⟨by rfl, ?_⟩) (by assumption) ?_
        rotate_left
        · (intro w hSw; (try dsimp only at hSw); go_simp; try with_reducible rfl)
        try simp only [Act.put, List.setIfInBounds_toArray, List.set_cons_zero, List.set_cons_succ]
        refine wpAnyH_take (i := 9) (oi := ⟨some 66, _, _, _, _, _⟩) (v := ?_) rfl (by kernel_rfl) (by kernel_rfl) (by kernel_rfl) (fun _ _ _ h => h) (Or.inl ⟨by rfl, ?_⟩) (by assumption) ?_
        rotate_left
        · (intro w hSw; (try dsimp only at hSw); go_simp; try with_reducible rfl)
        try simp only [Act.put, List.setIfInBounds_toArray, List.set_cons_zero, List.set_cons_succ]
        refine wpAnyH_take (i := 10) (oi := ⟨some 67, _, _, _, _, _⟩) (v := ?_) rfl (by kernel_rfl) (by kernel_rfl) (by kernel_rfl) (fun _ _ _ h => h) (Or.inl ⟨by rfl, ?_⟩) (by assumption) ?_
        rotate_left
        · (intro w hSw; (try dsimp only at hSw); go_simp; try with_reducible rfl)
        try simp only [Act.put, List.setIfInBounds_toArray, List.set_cons_zero, List.set_cons_succ]
        refine wpAnyH_take (i := 12) (oi := ⟨some 69, _, _, _, _, _⟩) (v := ?_) rfl (by kernel_rfl) (by kernel_rfl) (by kernel_rfl) (fun _ _ _ h => h) (Or.inl ⟨by rfl, ?_⟩) (by assumption) ?_
        rotate_left
        · (intro w hSw; (try dsimp only at hSw); go_simp; try with_reducible rfl)
        try simp only [Act.put, List.setIfInBounds_toArray, List.set_cons_zero, List.set_cons_succ]
        refine wpAnyH_take (i := 13) (oi := ⟨some 70, _, _, _, _, _⟩) (v := ?_) rfl (by kernel_rfl) (by kernel_rfl) (by kernel_rfl) (fun _ _ _ h => h) (Or.inl ⟨by rfl, ?_⟩) (by assumption) ?_
        rotate_left
        · (intro w hSw; (try dsimp only at hSw); go_simp; try with_reducible rfl)
        try simp only [Act.put, List.setIfInBounds_toArray, List.set_cons_zero, List.set_cons_succ]
        refine wpAnyH_take (i := 14) (oi := ⟨some 71, _, _, _, _, _⟩) (v := ?_) rfl (by kernel_rfl) (by kernel_rfl) (by kernel_rfl) (fun _ _ _ h => h) (Or.inl ⟨by rfl, ?_⟩) (by assumption) ?_
        rotate_left
        · (intro w hSw; (try dsimp only at hSw); go_simp; try with_reducible rfl)
        try simp only [Act.put, List.setIfInBounds_toArray, List.set_cons_zero, List.set_cons_succ]
        refine wpAnyH_take (i := 15) (oi := ⟨some 72, _, _, _, _, _⟩) (v := ?_) rfl (by kernel_rfl) (by kernel_rfl) (by kernel_rfl) (fun _ _ _ h => h) (Or.inl ⟨by rfl, ?_⟩) (by assumption) ?_
        rotate_left
        · (intro w hSw; (try dsimp only at hSw); go_simp; try with_reducible rfl)
        try simp only [Act.put, List.setIfInBounds_toArray, List.set_cons_zero, List.set_cons_succ]
        refine wpAnyH_take (i := 16) (oi := ⟨some 73, _, _, _, _, _⟩) (v := ?_) rfl (by kernel_rfl) (by kernel_rfl) (by kernel_rfl) (fun _ _ _ h => h) (Or.inl ⟨by rfl, ?_⟩) (by assumption) ?_
        rotate_left
        · (intro w hSw; (try dsimp only at hSw); go_simp; try with_reducible rfl)
        try simp only [Act.put, List.setIfInBounds_toArray, List.set_cons_zero, List.set_cons_succ]
        refine wpAnyH_take (i := 17) (oi := ⟨some 74, _, _, _, _, _⟩) (v := ?_) rfl (by kernel_rfl) (by kernel_rfl) (by kernel_rfl) (fun _ _ _ h => h) (Or.inl ⟨by rfl, ?_⟩) (by assumption) ?_
        rotate_left
        · (intro w hSw; (try dsimp only at hSw); go_simp; try with_reducible rfl)
        try simp only [Act.put, List.setIfInBounds_toArray, List.set_cons_zero, List.set_cons_succ]
        refine wpAnyH_take (i := 18) (oi := ⟨some 75, _, _, _, _, _⟩) (v := ?_) rfl (by kernel_rfl) (by kernel_rfl) (by kernel_rfl) (fun _ _ _ h => h) (Or.inl ⟨by rfl, ?_⟩) (by assumption) ?_
        rotate_left
        · (intro w hSw; (try dsimp only at hSw); go_simp; try with_reducible rfl)
        try simp only [Act.put, List.setIfInBounds_toArray, List.set_cons_zero, List.set_cons_succ]
        refine wpAnyH_take (i := 19) (oi := ⟨some 76, _, _, _, _, _⟩) (v := ?_) rfl (by kernel_rfl) (by kernel_rfl) (by kernel_rfl) (fun _ _ _ h => h) (Or.inl ⟨by rfl, ?_⟩) (by assumption) ?_
        rotate_left
        · (intro w hSw; (try dsimp only at hSw); go_simp; try with_reducible rfl)
        try simp only [Act.put, List.setIfInBounds_toArray, List.set_cons_zero, List.set_cons_succ]
        refine wpAnyH_take (i := 20) (oi := ⟨some 77, _, _, _, _, _⟩) (v := ?_) rfl (by kernel_rfl) (by kernel_rfl) (by kernel_rfl) (fun _ _ _ h => h) (Or.inl ⟨by rfl, ?_⟩) (by assumption) ?_
        rotate_left
        · (intro w hSw; (try dsimp only at hSw); go_simp; try with_reducible rfl)
        try simp only [Act.put, List.setIfInBounds_toArray, List.set_cons_zero, List.set_cons_succ]
        refine wpAnyH_take (i := 21) (oi := ⟨some 78, _, _, _, _, _⟩) (v := ?_) rfl (by kernel_rfl) (by kernel_rfl) (by kernel_rfl) (fun _ _ _ h => h) (Or.inl ⟨by rfl, ?_⟩) (by assumption) ?_
        rotate_left
        · (intro w hSw; (try dsimp only at hSw); go_simp; try with_reducible rfl)
        try simp only [Act.put, List.setIfInBounds_toArray, List.set_cons_zero, List.set_cons_succ]
        refine wpAnyH_take (i := 22) (oi := ⟨some 79, _, _, _, _, _⟩) (v := ?_) rfl (by kernel_rfl) (by kernel_rfl) (by kernel_rfl) (fun _ _ _ h => h) (Or.inl ⟨by rfl, ?_⟩) (by assumption) ?_
        rotate_left
        · (intro w hSw; (try dsimp only at hSw); go_simp; try with_reducible rfl)
        try simp only [Act.put, List.setIfInBounds_toArray, List.set_cons_zero, List.set_cons_succ]
        refine wpAnyH_ready (rs := [11]) (by kernel_rfl) (by simp) ?_
        refine AllReadyH.cons (o := ⟨some 68, _, _, _, _, _⟩) rfl (fun K hK => ?_) AllReadyH.nil
        go_simp
        refine (both_End D3.out (by omega) (by omega) x.id x.an).mono ?_
        rintro e w4 ⟨rfl, h4⟩
        have D4 := Lib.hid h4
        clear h4
        go_wp2_with fail
        refine hK.out _ _ ?_ (fun hHeldX => ?_)
        · first | exact ev_T XE.out D5.out.low hb | exact ev_T XE.out D4.out.low hb | exact ev_T XE.out D3.out.low hb
        clear hK K hHeld
        rename _ => hHeld
        try simp only [Act.put, List.setIfInBounds_toArray, List.set_cons_zero, List.set_cons_succ]
        refine wpAnyH_ready (rs := [23]) (by kernel_rfl) (by simp) ?_
        refine AllReadyH.cons (o := ⟨some 80, _, _, _, _, _⟩) rfl (fun K hK => ?_) AllReadyH.nil
        go_simp
        refine (half_End D4.out (by omega) (by omega)).mono ?_
        rintro e w5 ⟨rfl, h5⟩
        have D5 := Lib.hid h5
        clear h5
        go_wp2_with fail
        refine hK.out _ _ ?_ (fun hHeldX => ?_)
        · first | exact ev_T XE.out D5.out.low hb | exact ev_T XE.out D4.out.low hb | exact ev_T XE.out D3.out.low hb
        clear hK K hHeld
        rename _ => hHeld
        try simp only [Act.put, List.setIfInBounds_toArray, List.set_cons_zero, List.set_cons_succ]
        refine wpAnyH_take (i := 24) (oi := ⟨some 81, _, _, _, _, _⟩) (v := ?_) rfl (by kernel_rfl) (by kernel_rfl) (by kernel_rfl) (fun _ _ _ h => h) (Or.inl ⟨by rfl, ?_⟩) (by assumption) ?_
        rotate_left
        · (intro w hSw; (try dsimp only at hSw); go_simp; try with_reducible rfl)
        try simp only [Act.put, List.setIfInBounds_toArray, List.set_cons_zero, List.set_cons_succ]
        refine wpAnyH_done (by kernel_rfl) ?_ _
        refine NoPanic.normal ?_
        go_wp2
        go_roundw
        case rel => exact ⟨k + 1, _, _, _, _, _, by omega, by go_num, Nat.le_trans (endL_le L now x.id x.an) (by omega), Nat.le_trans (endN_le L now x.id) (by omega), D5⟩
        case measure => simp [intOf]; omega
      · skip
        rw [hbg] at c0
        clear hbg
        go_wp2_with fail
        refine wp_region_noPanic ?_
        refine wp_region_held_drew (S := (fun w' => w'.cell? ⟨b, off + k * 14 + 1, none⟩ = some (numV x.th) ∧ w'.cell? ⟨b, off + k * 14 + 3, none⟩ = some (numV x.op.k) ∧ w'.cell? ⟨b, off + k * 14 + 4, none⟩ = some (numV x.op.s) ∧ w'.cell? ⟨b, off + k * 14 + 5, none⟩ = some (.string x.op.t) ∧ w'.cell? ⟨b, off + k * 14 + 6, none⟩ = some (.string x.op.p) ∧ w'.cell? ⟨b, off + k * 14 + 7, none⟩ = some (.bool x.op.keep))) (by kernel_rfl) ?_ (fun hHeld => ?_)
        · first | exact ev_S XE.out D5.out.low hb | exact ev_S XE.out D4.out.low hb | exact ev_S XE.out D3.out.low hb
        refine wpAnyH_take (i := 0) (oi := ⟨some 32, _, _, _, _, _⟩) (v := ?_) rfl (by kernel_rfl) (by kernel_rfl) (by kernel_rfl) (fun _ _ _ h => h) (Or.inl ⟨by rfl, ?_⟩) (by assumption) ?_
        rotate_left
        · (intro w hSw; (try dsimp only at hSw); go_simp; try with_reducible rfl)
        try simp only [Act.put, List.setIfInBounds_toArray, List.set_cons_zero, List.set_cons_succ]
        refine wpAnyH_take (i := 1) (oi := ⟨some 33, _, _, _, _, _⟩) (v := ?_) rfl (by kernel_rfl) (by kernel_rfl) (by kernel_rfl) (fun _ _ _ h => h) (Or.inl ⟨by rfl, ?_⟩) (by assumption) ?_
        rotate_left
        · (intro w hSw; (try dsimp only at hSw); go_simp; try with_reducible rfl)
        try simp only [Act.put, List.setIfInBounds_toArray, List.set_cons_zero, List.set_cons_succ]
        refine wpAnyH_take (i := 2) (oi := ⟨some 34, _, _, _, _, _⟩) (v := ?_) rfl (by kernel_rfl) (by kernel_rfl) (by kernel_rfl) (fun _ _ _ h => h) (Or.inl ⟨by rfl, ?_⟩) (by assumption) ?_
        rotate_left
        · (intro w hSw; (try dsimp only at hSw); go_simp; try with_reducible rfl)
        try simp only [Act.put, List.setIfInBounds_toArray, List.set_cons_zero, List.set_cons_succ]
        refine wpAnyH_take (i := 3) (oi := ⟨some 35, _, _, _, _, _⟩) (v := ?_) rfl (by kernel_rfl) (by kernel_rfl) (by kernel_rfl) (fun _ _ _ h => h) (Or.inl ⟨by rfl, ?_⟩) (by assumption) ?_
        rotate_left
        · (intro w hSw; (try dsimp only at hSw); go_simp; try with_reducible rfl)
        try simp only [Act.put, List.setIfInBounds_toArray, List.set_cons_zero, List.set_cons_succ]
        refine wpAnyH_take (i := 4) (oi := ⟨some 36, _, _, _, _, _⟩) (v := ?_) rfl (by kernel_rfl) (by kernel_rfl) (by kernel_rfl) (fun _ _ _ h => h) (Or.inl ⟨by rfl, ?_⟩) (by assumption) ?_
        rotate_left
        · (intro w hSw; (try dsimp only at hSw); go_simp; try with_reducible rfl)
        try simp only [Act.put, List.setIfInBounds_toArray, List.set_cons_zero, List.set_cons_succ]
        refine wpAnyH_take (i := 5) (oi := ⟨some 37, _, _, _, _, _⟩) (v := ?_) rfl (by kernel_rfl) (by kernel_rfl) (by kernel_rfl) (fun _ _ _ h => h) (Or.inl ⟨by rfl, ?_⟩) (by assumption) ?_
        rotate_left
        · (intro w hSw; (try dsimp only at hSw); go_simp; try with_reducible rfl)
        try simp only [Act.put, List.setIfInBounds_toArray, List.set_cons_zero, List.set_cons_succ]
        refine wpAnyH_take (i := 6) (oi := ⟨some 38, _, _, _, _, _⟩) (v := ?_) rfl (by kernel_rfl) (by kernel_rfl) (by kernel_rfl) (fun _ _ _ h => h) (Or.inl ⟨by rfl, ?_⟩) (by assumption) ?_
        rotate_left
        · (intro w hSw; (try dsimp only at hSw); go_simp; try with_reducible rfl)
        try simp only [Act.put, List.setIfInBounds_toArray, List.set_cons_zero, List.set_cons_succ]
        refine wpAnyH_take (i := 7) (oi := ⟨some 39, _, _, _, _, _⟩) (v := ?_) rfl (by kernel_rfl) (by kernel_rfl) (by kernel_rfl) (fun _ _ _ h => h) (Or.inl ⟨by rfl, ?_⟩) (by assumption) ?_
        rotate_left
        · (intro w hSw; (try dsimp only at hSw); go_simp; try with_reducible rfl)
        try simp only [Act.put, List.setIfInBounds_toArray, List.set_cons_zero, List.set_cons_succ]
        refine wpAnyH_take (i := 8) (oi := ⟨some 40, _, _, _, _, _⟩) (v := ?_) rfl (by kernel_rfl) (by kernel_rfl) (by kernel_rfl) (fun _ _ _ h => h) (Or.inl ⟨by rfl, ?_⟩) (by assumption) ?_
        rotate_left
        · (intro w hSw; (try dsimp only at hSw); go_simp; try with_reducible rfl)
        try simp only [Act.put, List.setIfInBounds_toArray, List.set_cons_zero, List.set_cons_succ]
        refine wpAnyH_take (i := 9) (oi := ⟨some 41, _, _, _, _, _⟩) (v := ?_) rfl (by kernel_rfl) (by kernel_rfl) (by kernel_rfl) (fun _ _ _ h => h) (Or.inl ⟨by rfl, ?_⟩) (by assumption) ?_
        rotate_left
        · (intro w hSw; (try dsimp only at hSw); go_simp; try with_reducible rfl)
        try simp only [Act.put, List.setIfInBounds_toArray, List.set_cons_zero, List.set_cons_succ]
        refine wpAnyH_take (i := 10) (oi := ⟨some 42, _, _, _, _, _⟩) (v := ?_) rfl (by kernel_rfl) (by kernel_rfl) (by kernel_rfl) (fun _ _ _ h => h) (Or.inl ⟨by rfl, ?_⟩) (by assumption) ?_
        rotate_left
        · (intro w hSw; (try dsimp only at hSw); go_simp; try with_reducible rfl)
        try simp only [Act.put, List.setIfInBounds_toArray, List.set_cons_zero, List.set_cons_succ]
        refine wpAnyH_take (i := 12) (oi := ⟨some 44, _, _, _, _, _⟩) (v := ?_) rfl (by kernel_rfl) (by kernel_rfl) (by kernel_rfl) (fun _ _ _ h => h) (Or.inl ⟨by rfl, ?_⟩) (by assumption) ?_
        rotate_left
        · (intro w hSw; (try dsimp only at hSw); go_simp; try with_reducible rfl)
        try simp only [Act.put, List.setIfInBounds_toArray, List.set_cons_zero, List.set_cons_succ]
        refine wpAnyH_take (i := 13) (oi := ⟨some 45, _, _, _, _, _⟩) (v := ?_) rfl (by kernel_rfl) (by kernel_rfl) (by kernel_rfl) (fun _ _ _ h => h) (Or.inl ⟨by rfl, ?_⟩) (by assumption) ?_
        rotate_left
        · (intro w hSw; (try dsimp only at hSw); go_simp; try with_reducible rfl)
        try simp only [Act.put, List.setIfInBounds_toArray, List.set_cons_zero, List.set_cons_succ]
        refine wpAnyH_take (i := 14) (oi := ⟨some 46, _, _, _, _, _⟩) (v := ?_) rfl (by kernel_rfl) (by kernel_rfl) (by kernel_rfl) (fun _ _ _ h => h) (Or.inl ⟨by rfl, ?_⟩) (by assumption) ?_
        rotate_left
        · (intro w hSw; (try dsimp only at hSw); go_simp; try with_reducible rfl)
        try simp only [Act.put, List.setIfInBounds_toArray, List.set_cons_zero, List.set_cons_succ]
        refine wpAnyH_take (i := 15) (oi := ⟨some 47, _, _, _, _, _⟩) (v := ?_) rfl (by kernel_rfl) (by kernel_rfl) (by kernel_rfl) (fun _ _ _ h => h) (Or.inl ⟨by rfl, ?_⟩) (by assumption) ?_
        rotate_left
        · (intro w hSw; (try dsimp only at hSw); go_simp; try with_reducible rfl)
        try simp only [Act.put, List.setIfInBounds_toArray, List.set_cons_zero, List.set_cons_succ]
        refine wpAnyH_take (i := 16) (oi := ⟨some 48, _, _, _, _, _⟩) (v := ?_) rfl (by kernel_rfl) (by kernel_rfl) (by kernel_rfl) (fun _ _ _ h => h) (Or.inl ⟨by rfl, ?_⟩) (by assumption) ?_
        rotate_left
        · (intro w hSw; (try dsimp only at hSw); go_simp; try with_reducible rfl)
        try simp only [Act.put, List.setIfInBounds_toArray, List.set_cons_zero, List.set_cons_succ]
        refine wpAnyH_take (i := 17) (oi := ⟨some 49, _, _, _, _, _⟩) (v := ?_) rfl (by kernel_rfl) (by kernel_rfl) (by kernel_rfl) (fun _ _ _ h => h) (Or.inl ⟨by rfl, ?_⟩) (by assumption) ?_
        rotate_left
        · (intro w hSw; (try dsimp only at hSw); go_simp; try with_reducible rfl)
        try simp only [Act.put, List.setIfInBounds_toArray, List.set_cons_zero, List.set_cons_succ]
        refine wpAnyH_take (i := 18) (oi := ⟨some 50, _, _, _, _, _⟩) (v := ?_) rfl (by kernel_rfl) (by kernel_rfl) (by kernel_rfl) (fun _ _ _ h => h) (Or.inl ⟨by rfl, ?_⟩) (by assumption) ?_
        rotate_left
        · (intro w hSw; (try dsimp only at hSw); go_simp; try with_reducible rfl)
        try simp only [Act.put, List.setIfInBounds_toArray, List.set_cons_zero, List.set_cons_succ]
        refine wpAnyH_take (i := 19) (oi := ⟨some 51, _, _, _, _, _⟩) (v := ?_) rfl (by kernel_rfl) (by kernel_rfl) (by kernel_rfl) (fun _ _ _ h => h) (Or.inl ⟨by rfl, ?_⟩) (by assumption) ?_
        rotate_left
        · (intro w hSw; (try dsimp only at hSw); go_simp; try with_reducible rfl)
        try simp only [Act.put, List.setIfInBounds_toArray, List.set_cons_zero, List.set_cons_succ]
        refine wpAnyH_take (i := 20) (oi := ⟨some 52, _, _, _, _, _⟩) (v := ?_) rfl (by kernel_rfl) (by kernel_rfl) (by kernel_rfl) (fun _ _ _ h => h) (Or.inl ⟨by rfl, ?_⟩) (by assumption) ?_
        rotate_left
        · (intro w hSw; (try dsimp only at hSw); go_simp; try with_reducible rfl)
        try simp only [Act.put, List.setIfInBounds_toArray, List.set_cons_zero, List.set_cons_succ]
        refine wpAnyH_take (i := 21) (oi := ⟨some 53, _, _, _, _, _⟩) (v := ?_) rfl (by kernel_rfl) (by kernel_rfl) (by kernel_rfl) (fun _ _ _ h => h) (Or.inl ⟨by rfl, ?_⟩) (by assumption) ?_
        rotate_left
        · (intro w hSw; (try dsimp only at hSw); go_simp; try with_reducible rfl)
        try simp only [Act.put, List.setIfInBounds_toArray, List.set_cons_zero, List.set_cons_succ]
        refine wpAnyH_take (i := 22) (oi := ⟨some 54, _, _, _, _, _⟩) (v := ?_) rfl (by kernel_rfl) (by kernel_rfl) (by kernel_rfl) (fun _ _ _ h => h) (Or.inl ⟨by rfl, ?_⟩) (by assumption) ?_
        rotate_left
        · (intro w hSw; (try dsimp only at hSw); go_simp; try with_reducible rfl)
        try simp only [Act.put, List.setIfInBounds_toArray, List.set_cons_zero, List.set_cons_succ]
        refine wpAnyH_ready (rs := [11]) (by kernel_rfl) (by simp) ?_
        refine AllReadyH.cons (o := ⟨some 43, _, _, _, _, _⟩) rfl (fun K hK => ?_) AllReadyH.nil
        go_simp
        refine (both_Begin D3.out (by omega) (by omega) x.th HT.out x.op).mono ?_
        rintro e w4 ⟨rfl, cv4, mv4, h4⟩
        have D4 := Lib.hid h4
        clear h4
        go_wp2_with fail
        refine hK.out _ _ ?_ (fun hHeldX => ?_)
        · first | exact ev_S XE.out D5.out.low hb | exact ev_S XE.out D4.out.low hb | exact ev_S XE.out D3.out.low hb
        clear hK K hHeld
        rename _ => hHeld
        try simp only [Act.put, List.setIfInBounds_toArray, List.set_cons_zero, List.set_cons_succ]
        refine wpAnyH_ready (rs := [23]) (by kernel_rfl) (by simp) ?_
        refine AllReadyH.cons (o := ⟨some 55, _, _, _, _, _⟩) rfl (fun K hK => ?_) AllReadyH.nil
        go_simp
        refine (half_Begin D4.out (by omega) (by omega)).mono ?_
        rintro e w5 ⟨rfl, xv5, h5⟩
        have D5 := Lib.hid h5
        clear h5
        go_wp2_with fail
        refine hK.out _ _ ?_ (fun hHeldX => ?_)
        · first | exact ev_S XE.out D5.out.low hb | exact ev_S XE.out D4.out.low hb | exact ev_S XE.out D3.out.low hb
        clear hK K hHeld
        rename _ => hHeld
        try simp only [Act.put, List.setIfInBounds_toArray, List.set_cons_zero, List.set_cons_succ]
        refine wpAnyH_take (i := 24) (oi := ⟨some 56, _, _, _, _, _⟩) (v := ?_) rfl (by kernel_rfl) (by kernel_rfl) (by kernel_rfl) (fun _ _ _ h => h) (Or.inl ⟨by rfl, ?_⟩) (by assumption) ?_
        rotate_left
        · (intro w hSw; (try dsimp only at hSw); go_simp; try with_reducible rfl)
        try simp only [Act.put, List.setIfInBounds_toArray, List.set_cons_zero, List.set_cons_succ]
        refine wpAnyH_done (by kernel_rfl) ?_ _
        refine NoPanic.normal ?_
        go_wp2
        go_roundw
        case rel => exact ⟨k + 1, _, _, _, _, _, by omega, by go_num, by simp; omega, by omega, D5⟩
        case measure => simp [intOf]; omega
    · obtain rfl : k = E.length := by omega
      clear hlt hk D0
      obtain ⟨ax, cx, rfl⟩ := own_form D2.out.ref.row
      have x0 := D2.out.ref.blk.at (o := 0) rfl
      have hL3 : L.length ≤ 300 := by omega
      go_wp2
      go_loopw [6, 7] (fun al i wq => ∃ (j : Nat), j ≤ L.length ∧ i = .int .i64 j ∧ al = .bool (!anyOpen (L.take j)) ∧ wr = wq) (fun _ i _ => L.length - (intOf i).toNat)
      case atStart => exact ⟨0, Nat.zero_le _, rfl, rfl, rfl⟩
      case round =>
        obtain ⟨j, hj, rfl, rfl, rfl⟩ := hrel
        by_cases hlt : j < L.length
        · obtain ⟨a', c', e', hrec⟩ := recs_own (f := callV) callV_len D2.out.ref.row
          cases e'
          obtain ⟨b, off, rfl, hb, hrg⟩ := hrec.range hlt
          have k14 : wr.cell? ⟨b, off + j * 15 + 14, none⟩ = some (numV L[j].to) := hrg 14 _ rfl
          have hA := Lib.hid (anyOpen_take hlt)
          generalize L[j].to = t at k14 hA
          clear hrg hrec
          generalize anyOpen (L.take j) = o at hA ⊢
          cases o
          · by_cases ht : t = 0
            · have ht1 : (t != 0) = false := by simpa using ht
              have hA2 := Lib.hid (show anyOpen (L.take (j + 1)) = true by rw [hA.out, ht]; rfl)
              clear ht hA
              go_wp2
              go_roundw
              case rel => exact ⟨j + 1, by omega, by go_num, by rw [hA2.out]; rfl, by trivial⟩
              case measure => simp [intOf]; omega
            · have ht1 : (t != 0) = true := by simpa using ht
              have hA2 := Lib.hid (show anyOpen (L.take (j + 1)) = false by rw [hA.out]; simpa using ht)
              clear ht hA
              go_wp2
              go_roundw
              case rel => exact ⟨j + 1, by omega, by go_num, by rw [hA2.out]; rfl, by trivial⟩
              case measure => simp [intOf]; omega
          · have hA2 := Lib.hid (show anyOpen (L.take (j + 1)) = true by rw [hA.out]; rfl)
            clear hA
            go_wp2
            go_roundw
            case rel => exact ⟨j + 1, by omega, by go_num, by rw [hA2.out]; rfl, by trivial⟩
            case measure => simp [intOf]; omega
        · obtain rfl : j = L.length := by omega
          rw [List.take_length]
          clear hlt hj
          go_wp2_with fail
          refine (log_Calls D2.out.log (by omega)).mono ?_
          rintro e w3 ⟨r, rfl, hr3, hb3⟩
          have D3 := Lib.hid (D2.out.below hb3)
          have R3 := Lib.hid hr3
          have x3 := D3.out.ref.blk.at (o := 0) rfl
          have S3 := Lib.hid (And.intro D2.out.low.size (fun g (hg : r.ownBlock = some g) => And.intro (fun h => Nat.lt_irrefl g (Nat.lt_of_lt_of_le (D2.out.log.lt h) (hr3.lt g hg).1)) (fun h => Nat.lt_irrefl g (Nat.lt_of_lt_of_le (D2.out.ref.lt h) (hr3.lt g hg).1)) : ∀ g, r.ownBlock = some g → ¬ LogBlk Bl cv mv g ∧ ¬ RefBlk Bx (.slice ax L.length cx) g))
          clear hr3 hb3
          have hoo : ((!anyOpen L) != (!anyOpen L)) = false := by simp
          generalize (!anyOpen L) = al at hoo ⊢
          go_wp2_with fail
          refine (ref_Same (CallsIn.own R3.out rfl) (CallsIn.own D3.out.ref.row rfl) (by omega)).mono ?_
          rintro e w4 ⟨rfl, n4, rfl⟩
          obtain ⟨ar, cr, rfl⟩ := own_form R3.out
          have O4 := Lib.hid (show Both w (w3.drewN n4) Bl Bx L now cv mv (.slice ax L.length cx) ∧ ∀ g, ar = some ⟨g, 0, none⟩ → Over w (w3.drewN n4) Bl Bx L now cv mv (.slice ax L.length cx) g L.length cr from
            ⟨D3.out.drewN n4, fun g hg => ⟨D3.out.drewN n4, ⟨callsV L, by
              subst hg
              have h1 := own_only R3.out ((Only.refl (fun _ => False) w3).drewN n4) (fun _ _ => id)
              obtain ⟨h0, h1 | ⟨g', cap', cur, e', hb', hrest⟩⟩ := h1
              · exact ⟨h0, .inl h1⟩
              · exact ⟨h0, .inr ⟨g', cap', cur, e', Nat.le_trans S3.out.1 hb', hrest⟩⟩⟩, S3.out.2 g (by rw [hg]; rfl)⟩⟩)
          have R4 := Lib.hid (show ∀ i, i < L.length → ∃ g, ar = some ⟨g, 0, none⟩ from fun i hi => by
            rcases R3.out.2 with ⟨_, e⟩ | ⟨g, cap', cur, e, _⟩
            · omega
            · cases e; exact ⟨g, rfl⟩)
          clear D3 R3 S3 D2 x3 x0
          generalize w3.drewN n4 = w4 at O4 ⊢
          go_wp2
          go_loopw [10] (fun i wq => ∃ (j : Nat), j ≤ L.length ∧ i = .int .i64 j ∧ Hid (Both w wq Bl Bx L now cv mv (.slice ax L.length cx) ∧ ∀ g, ar = some ⟨g, 0, none⟩ → Over w wq Bl Bx L now cv mv (.slice ax L.length cx) g L.length cr)) (fun i _ => L.length - (intOf i).toNat)
          case atStart => exact ⟨0, Nat.zero_le _, rfl, O4⟩
          case round =>
            obtain ⟨j, hj, rfl, O5⟩ := hrel
            by_cases hlt : j < L.length
            · obtain ⟨g, rfl⟩ := R4.out j hlt
              obtain ⟨u, ku, fu⟩ := (O5.out.2 g rfl).cell hlt
              have O6 := Lib.hid ((O5.out.2 g rfl).set (j * 15) (.int .i64 99))
              go_wp2
              go_roundw
              case rel => exact ⟨j + 1, by omega, by go_num, Lib.hid ⟨O6.out.both, fun g' hg' => by cases hg'; exact O6.out⟩⟩
              case measure => simp [intOf]; omega
            · obtain rfl : j = L.length := by omega
              go_wp2_with fail
              refine (log_Calls O5.out.1.log (by omega)).mono ?_
              rintro e w6 ⟨r6, rfl, hr6, hb6⟩
              have D6 := Lib.hid (And.intro (O5.out.1.below hb6) hr6)
              have x6 := D6.out.1.ref.blk.at (o := 0) rfl
              clear hr6 hb6 O5
              go_wp2_with fail
              refine (ref_Same (CallsIn.own D6.out.2 rfl) (CallsIn.own D6.out.1.ref.row rfl) (by omega)).mono ?_
              rintro e w7 ⟨rfl, n7, rfl⟩
              go_wp2
              go_ret
              exact ⟨rfl, below_draws D6.out.1.low n7⟩

end Go.Proofs.Ytjkabbabhfipbaa
