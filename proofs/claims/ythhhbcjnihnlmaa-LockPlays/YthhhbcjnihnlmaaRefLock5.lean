/- Layer 5: the document's answer (bellmanref05): who holds each lock, how often each was held. -/
import Derived.Test.YthhhbcjnihnlmaaHeld5
import Derived.BigQuiet
namespace Go.Proofs.Ythhhbcjnihnlmaa
open Go.RowKit

/-- The document's group at X: its owners in block P, its counts in block Q. -/
structure RefIs (W : World) (X P Q : Nat) (O C : List Int) : Prop where
  head : ∃ a c, Blk 31 W X [.slice a O.length O.length, .slice c O.length O.length] ∧ (O ≠ [] → a = some ⟨P, 0, none⟩ ∧ c = some ⟨Q, 0, none⟩)
  len : C.length = O.length
  row : O ≠ [] → Blk 3 W P (O.map numV) ∧ Blk 3 W Q (C.map numV) ∧ P ≠ X ∧ Q ≠ X ∧ P ≠ Q
theorem RefIs.only {W W' : World} {X P Q : Nat} {O C : List Int} {S : Nat → Prop} (h : RefIs W X P Q O C) (ho : Only S W W') (hX : ¬ S X) (hP : ¬ S P) (hQ : ¬ S Q) : RefIs W' X P Q O C := by
  obtain ⟨⟨a, c, h1, h2⟩, hl, h3⟩ := h
  exact ⟨⟨a, c, h1.only ho hX, h2⟩, hl, fun hne => by obtain ⟨h4, h5, h6⟩ := h3 hne; exact ⟨h4.only ho hP, h5.only ho hQ, h6⟩⟩
theorem RefIs.below {W W' : World} {X P Q : Nat} {O C : List Int} (h : RefIs W X P Q O C) (hb : Below W.heap.size W W') : RefIs W' X P Q O C := h.only (Only.of_below hb (fun _ => False)) (fun h => h) (fun h => h) (fun h => h)
theorem map_num_set (O : List Int) (i : Nat) (x : Int) : (O.map numV).set i (.int .i64 x) = (O.set i x).map numV := by rw [List.map_set]
theorem RefIs.setO {W : World} {X P Q : Nat} {O C : List Int} (h : RefIs W X P Q O C) (hne : O ≠ []) (i : Nat) (x : Int) : RefIs (W.setCell ⟨P, i, none⟩ (.int .i64 x)) X P Q (O.set i x) C := by
  obtain ⟨⟨a, c, h1, h2⟩, hl, h3⟩ := h
  obtain ⟨h4, h5, h6, h7, h8⟩ := h3 hne
  refine ⟨⟨a, c, by rw [List.length_set]; exact h1.setOther (Ne.symm h6) i _, fun _ => h2 hne⟩, by rw [List.length_set]; exact hl, fun _ => ⟨?_, h5.setOther (Ne.symm h8) i _, h6, h7, h8⟩⟩
  rw [← map_num_set]; exact h4.set i _
theorem RefIs.setC {W : World} {X P Q : Nat} {O C : List Int} (h : RefIs W X P Q O C) (hne : O ≠ []) (i : Nat) (x : Int) : RefIs (W.setCell ⟨Q, i, none⟩ (.int .i64 x)) X P Q O (C.set i x) := by
  obtain ⟨⟨a, c, h1, h2⟩, hl, h3⟩ := h
  obtain ⟨h4, h5, h6, h7, h8⟩ := h3 hne
  refine ⟨⟨a, c, h1.setOther (Ne.symm h7) i _, fun _ => h2 hne⟩, by rw [List.length_set]; exact hl, fun _ => ⟨h4.setOther h8 i _, ?_, h6, h7, h8⟩⟩
  rw [← map_num_set]; exact h5.set i _
/-- What is read of it. -/
theorem RefIs.reads {W : World} {X P Q : Nat} {O C : List Int} (h : RefIs W X P Q O C) {i : Nat} {x y : Int} (hx : O[i]? = some x) (hy : C[i]? = some y) :
    W.cell? ⟨X, 0, none⟩ = some (.slice (some ⟨P, 0, none⟩) O.length O.length) ∧ W.cell? ⟨X, 1, none⟩ = some (.slice (some ⟨Q, 0, none⟩) O.length O.length) ∧
      W.cell? ⟨P, i, none⟩ = some (.int .i64 x) ∧ W.cell? ⟨Q, i, none⟩ = some (.int .i64 y) ∧ W.frozen? ⟨P, i, none⟩ = false ∧ W.frozen? ⟨Q, i, none⟩ = false := by
  obtain ⟨⟨a, c, h1, h2⟩, hl, h3⟩ := h
  have hne : O ≠ [] := by rintro rfl; simp at hx
  obtain ⟨rfl, rfl⟩ := h2 hne
  obtain ⟨h4, h5, h6⟩ := h3 hne
  exact ⟨h1.at rfl, h1.at rfl, h4.at (by rw [List.getElem?_map, hx]; rfl), h5.at (by rw [List.getElem?_map, hy]; rfl), h4.frozen i, h5.frozen i⟩

theorem madeNums (n : Nat) : (madeCells (Value.int .i64 0).cells (n * 1)).toList = (List.replicate n (0 : Int)).map numV := by
  apply List.ext_getElem?
  intro j
  by_cases hj : j < n
  · simp [madeCells, hj, Value.cells, Nat.mod_one]
  · simp [madeCells, hj]
/-- What New leaves. -/
structure RefNew (w : World) (n : Nat) (e : Ending) (w' : World) : Prop where
  ex : ∃ X P Q, e = .returned (.pointer (some ⟨X, 0, none⟩)) ∧ RefIs w' X P Q (List.replicate n 0) (List.replicate n 0) ∧ w.heap.size ≤ X ∧ w.heap.size ≤ P ∧ w.heap.size ≤ Q ∧ X < w'.heap.size ∧ P < w'.heap.size ∧ Q < w'.heap.size
  below : Below w.heap.size w w'
theorem ref_New_no (n : Int) (w : World) (h : n < 1 ∨ 1024 < n) : Calls Try.prog 8 #[.int .i64 n] w (RefNew w 0) := by
  have F : Hid (Blk 31 (w.alloc (.cells #[.slice none 0 0, .slice none 0 0] 31)) w.heap.size [.slice none 0 0, .slice none 0 0]) := Lib.hid Blk.new
  rcases h with h | h
  · go_enter Try.func8, Try.ntmps8
    go_wp2
    go_ret
    exact ⟨⟨w.heap.size, w.heap.size, w.heap.size, rfl, ⟨⟨none, none, F.out, fun h => absurd rfl h⟩, rfl, fun h => absurd rfl h⟩, by simp, by simp, by simp, by simp, by simp, by simp⟩, (Below.refl _ _).alloc (Nat.le_refl _) _⟩
  · have h' : ¬ n < 1 := by omega
    go_enter Try.func8, Try.ntmps8
    go_wp2
    go_ret
    exact ⟨⟨w.heap.size, w.heap.size, w.heap.size, rfl, ⟨⟨none, none, F.out, fun h => absurd rfl h⟩, rfl, fun h => absurd rfl h⟩, by simp, by simp, by simp, by simp, by simp, by simp⟩, (Below.refl _ _).alloc (Nat.le_refl _) _⟩
theorem refNew_mk (w : World) (n : Nat) (M : Array Value) (hM : M.toList = (List.replicate n (0 : Int)).map numV) (p q : Nat) (hpq : (p = w.heap.size ∧ q = w.heap.size + 1) ∨ (p = w.heap.size + 1 ∧ q = w.heap.size)) :
    RefNew w n (.returned (.pointer (some ⟨w.heap.size + 1 + 1, 0, none⟩))) (((w.alloc (.cells M 3)).alloc (.cells M 3)).alloc (.cells #[.slice (some ⟨p, 0, none⟩) n n, .slice (some ⟨q, 0, none⟩) n n] 31)).drew := by
  have hb : Blk 3 (w.alloc (.cells M 3)) w.heap.size M.toList := Blk.new (l := M.toList)
  have hb2 := Blk.new (t := 3) (W := w.alloc (.cells M 3)) (l := M.toList)
  have hb3 := Blk.new (t := 31) (W := (w.alloc (.cells M 3)).alloc (.cells M 3)) (l := [.slice (some ⟨p, 0, none⟩) n n, .slice (some ⟨q, 0, none⟩) n n])
  have hb' := (hb.alloc (.cells M 3)).alloc (.cells #[.slice (some ⟨p, 0, none⟩) n n, .slice (some ⟨q, 0, none⟩) n n] 31)
  have hb2' := hb2.alloc (.cells #[.slice (some ⟨p, 0, none⟩) n n, .slice (some ⟨q, 0, none⟩) n n] 31)
  simp only [World.size_alloc, Array.toArray_toList] at hb2' hb3
  rw [hM] at hb' hb2'
  refine ⟨⟨_, p, q, rfl, ⟨⟨some ⟨p, 0, none⟩, some ⟨q, 0, none⟩, ?_, fun _ => ⟨rfl, rfl⟩⟩, rfl, fun _ => ?_⟩, by omega, by omega, by omega, by simp [World.drew], by simp [World.drew]; omega, by simp [World.drew]; omega⟩, ?_⟩
  · rw [List.length_replicate]; exact hb3
  · rcases hpq with ⟨rfl, rfl⟩ | ⟨rfl, rfl⟩
    · exact ⟨hb', hb2', by omega, by omega, by omega⟩
    · exact ⟨hb2', hb', by omega, by omega, by omega⟩
  · exact below_draws ((((Below.refl _ _).alloc (Nat.le_refl _) _).alloc (by simp) _).alloc (by simp; omega) _) 1
theorem ref_New_yes (n : Nat) (w : World) (h1 : 1 ≤ n) (h2 : n ≤ 1024) : Calls Try.prog 8 #[.int .i64 n] w (RefNew w n) := by
  have hmk := fun w => run_make_recs (P := Try.prog) Try.underlying29 infoInt n (by omega) (by omega) w
  have F := Lib.hid (madeNums n)
  generalize madeCells (Value.int .i64 0).cells (n * 1) = M at hmk F
  go_enter Try.func8, Try.ntmps8
  go_wp2
  go_region
  · go_wp2
    go_ret
    exact refNew_mk w n M F.out _ _ (.inl ⟨rfl, rfl⟩)
  · go_wp2
    go_ret
    exact refNew_mk w n M F.out _ _ (.inr ⟨rfl, rfl⟩)

theorem there_yes {W : World} {X P Q : Nat} {O C : List Int} (h : RefIs W X P Q O C) (i : Nat) (hi : i < O.length) : Calls Try.prog 11 #[.pointer (some ⟨X, 0, none⟩), .int .i64 i] W fun e w' => e = .returned (.bool true) ∧ W = w' := by
  obtain ⟨a, c, h1, _⟩ := h.head
  have c0 := h1.at (o := 0) rfl
  have hd : decide (i < O.length) = true := by simpa using hi
  clear h h1
  go_enter Try.func11, Try.ntmps11
  go_wp2
  go_ret
  exact ⟨rfl, rfl⟩
theorem there_no {W : World} {X P Q : Nat} {O C : List Int} (h : RefIs W X P Q O C) (i : Int) (hi : i < 0 ∨ (O.length : Int) ≤ i) : Calls Try.prog 11 #[.pointer (some ⟨X, 0, none⟩), .int .i64 i] W fun e w' => e = .returned (.bool false) ∧ W = w' := by
  obtain ⟨a, c, h1, _⟩ := h.head
  have c0 := h1.at (o := 0) rfl
  clear h h1
  rcases hi with hi | hi
  · have h1 : decide (0 ≤ i) = false := by simp; omega
    go_enter Try.func11, Try.ntmps11
    go_wp2
    go_ret
    exact ⟨rfl, rfl⟩
  · have h0 : 0 ≤ i := by omega
    have h1 : decide (i < (O.length : Int)) = false := by simp; omega
    go_enter Try.func11, Try.ntmps11
    go_wp2
    go_ret
    exact ⟨rfl, rfl⟩

theorem ref_Try_no {W : World} {X P Q : Nat} {O C : List Int} (h : RefIs W X P Q O C) (i owner : Int) (hi : i < 0 ∨ (O.length : Int) ≤ i) : Calls Try.prog 15 #[.pointer (some ⟨X, 0, none⟩), .int .i64 i, .int .i64 owner] W fun e w' => e = .returned (.bool false) ∧ W = w' := by
  have H := Lib.hid h
  clear h
  go_enter Try.func15, Try.ntmps15
  go_wp2_with fail
  refine (there_no H.out i hi).mono ?_
  rintro e w' ⟨rfl, rfl⟩
  go_wp2
  go_ret
  exact ⟨rfl, rfl⟩
theorem ref_Free_no {W : World} {X P Q : Nat} {O C : List Int} (h : RefIs W X P Q O C) (i owner : Int) (hi : i < 0 ∨ (O.length : Int) ≤ i) : Calls Try.prog 13 #[.pointer (some ⟨X, 0, none⟩), .int .i64 i, .int .i64 owner] W fun e w' => e = .returned (.int .i64 9) ∧ W = w' := by
  have H := Lib.hid h
  clear h
  go_enter Try.func13, Try.ntmps13
  go_wp2_with fail
  refine (there_no H.out i hi).mono ?_
  rintro e w' ⟨rfl, rfl⟩
  go_wp2
  go_ret
  exact ⟨rfl, rfl⟩

/-- What the document's try tells and leaves. -/
structure RefTried (X P Q : Nat) (O C : List Int) (i : Nat) (x y owner : Int) (w : World) (e : Ending) (w' : World) : Prop where
  told : e = .returned (.bool (tryB x owner))
  to : RefIs w' X P Q (O.set i (tryO x owner)) (C.set i (tryC x owner y))
  only : Only (fun k => k = P ∨ k = Q) w w'
theorem set_same {L : List Int} {i : Nat} {x : Int} (h : L[i]? = some x) : L.set i x = L := by
  obtain ⟨hl, rfl⟩ := List.getElem?_eq_some_iff.1 h
  exact List.set_getElem_self hl
theorem ref_Try {w : World} {X P Q : Nat} {O C : List Int} (h : RefIs w X P Q O C) (i : Nat) (owner : Int) {x y : Int} (hx : O[i]? = some x) (hy : C[i]? = some y) (hbig : O.length ≤ 1024) (hy0 : 0 ≤ y) (hy1 : y ≤ 1000000) :
    Calls Try.prog 15 #[.pointer (some ⟨X, 0, none⟩), .int .i64 i, .int .i64 owner] w (RefTried X P Q O C i x y owner w) := by
  have hi : i < O.length := (List.getElem?_eq_some_iff.1 hx).1
  obtain ⟨c0, c1, c2, c3, f2, f3⟩ := h.reads hx hy
  have hne : O ≠ [] := by rintro rfl; simp at hi
  have hSO := fun v => h.setO hne i v
  have H := Lib.hid h
  have E := Lib.hid (And.intro hx hy)
  have NE := Lib.hid hne
  have PQ := Lib.hid ((h.row hne).2.2)
  have SO := Lib.hid hSO
  clear h hx hy hne hSO
  by_cases hv : 1 ≤ owner
  · have hv' : decide (owner < 1) = false := by simp; omega
    by_cases hz : x = 0
    · subst hz
      have F := Lib.hid (show tryB 0 owner = true ∧ tryO 0 owner = owner ∧ tryC 0 owner y = y + 1 by simp [tryB, tryO, tryC, hv])
      have R1 := (SO.out owner).reads (i := i) (x := owner) (y := y) (by simp [hi]) E.out.2
      rw [List.length_set] at R1
      obtain ⟨_, d1, _, d3, _, g3⟩ := R1
      go_enter Try.func15, Try.ntmps15
      go_wp2_with fail
      refine (there_yes H.out i hi).mono ?_
      rintro e w' ⟨rfl, rfl⟩
      go_wp2
      go_ret
      refine ⟨by rw [F.out.1]; rfl, ?_, ?_⟩
      · rw [F.out.2.1, F.out.2.2]; exact (SO.out owner).setC (by simpa using NE.out) i (y + 1)
      · exact ((Only.refl _ _).setCell (p := ⟨P, i, none⟩) (.inl (.inl rfl)) _).setCell (p := ⟨Q, i, none⟩) (.inl (.inr rfl)) _
    · have F := Lib.hid (show tryB x owner = false ∧ tryO x owner = x ∧ tryC x owner y = y by simp [tryB, tryO, tryC, hz])
      have hz1 := bneI _ _ hz
      clear hz
      go_enter Try.func15, Try.ntmps15
      go_wp2_with fail
      refine (there_yes H.out i hi).mono ?_
      rintro e w' ⟨rfl, rfl⟩
      go_wp2
      go_ret
      refine ⟨by rw [F.out.1]; rfl, ?_, Only.refl _ _⟩
      rw [F.out.2.1, F.out.2.2, set_same E.out.1, set_same E.out.2]; exact H.out
  · have F := Lib.hid (show tryB x owner = false ∧ tryO x owner = x ∧ tryC x owner y = y by simp [tryB, tryO, tryC, hv])
    have hv' : owner < 1 := by omega
    go_enter Try.func15, Try.ntmps15
    go_wp2_with fail
    refine (there_yes H.out i hi).mono ?_
    rintro e w' ⟨rfl, rfl⟩
    go_wp2
    go_ret
    refine ⟨by rw [F.out.1]; rfl, ?_, Only.refl _ _⟩
    rw [F.out.2.1, F.out.2.2, set_same E.out.1, set_same E.out.2]; exact H.out
structure RefFreed (X P Q : Nat) (O C : List Int) (i : Nat) (x owner : Int) (w : World) (e : Ending) (w' : World) : Prop where
  told : e = .returned (.int .i64 (freeE x owner))
  to : RefIs w' X P Q (O.set i (freeO x owner)) C
  only : Only (fun k => k = P ∨ k = Q) w w'
theorem ref_Free {w : World} {X P Q : Nat} {O C : List Int} (h : RefIs w X P Q O C) (i : Nat) (owner : Int) {x y : Int} (hx : O[i]? = some x) (hy : C[i]? = some y) (hbig : O.length ≤ 1024) :
    Calls Try.prog 13 #[.pointer (some ⟨X, 0, none⟩), .int .i64 i, .int .i64 owner] w (RefFreed X P Q O C i x owner w) := by
  have hi : i < O.length := (List.getElem?_eq_some_iff.1 hx).1
  obtain ⟨c0, c1, c2, c3, f2, f3⟩ := h.reads hx hy
  have hne : O ≠ [] := by rintro rfl; simp at hi
  have H := Lib.hid h
  have E := Lib.hid (And.intro hx hy)
  have SO := Lib.hid (h.setO hne i 0)
  clear h hx hy hne
  by_cases hv : 1 ≤ owner
  · have hv' : decide (owner < 1) = false := by simp; omega
    by_cases hz : x = owner
    · subst hz
      have F := Lib.hid (show freeE x x = 0 ∧ freeO x x = 0 by simp [freeE, freeO, hv])
      go_enter Try.func13, Try.ntmps13
      go_wp2_with fail
      refine (there_yes H.out i hi).mono ?_
      rintro e w' ⟨rfl, rfl⟩
      go_wp2
      go_ret
      refine ⟨by rw [F.out.1]; rfl, ?_, ?_⟩
      · rw [F.out.2]; exact SO.out
      · exact (Only.refl _ _).setCell (p := ⟨P, i, none⟩) (.inl (.inl rfl)) _
    · have F := Lib.hid (show freeE x owner = 9 ∧ freeO x owner = x by simp [freeE, freeO, hz])
      have hz1 := bneI _ _ hz
      clear hz
      go_enter Try.func13, Try.ntmps13
      go_wp2_with fail
      refine (there_yes H.out i hi).mono ?_
      rintro e w' ⟨rfl, rfl⟩
      go_wp2
      go_ret
      refine ⟨by rw [F.out.1]; rfl, ?_, Only.refl _ _⟩
      rw [F.out.2, set_same E.out.1]; exact H.out
  · have F := Lib.hid (show freeE x owner = 9 ∧ freeO x owner = x by simp [freeE, freeO, hv])
    have hv' : owner < 1 := by omega
    go_enter Try.func13, Try.ntmps13
    go_wp2_with fail
    refine (there_yes H.out i hi).mono ?_
    rintro e w' ⟨rfl, rfl⟩
    go_wp2
    go_ret
    refine ⟨by rw [F.out.1]; rfl, ?_, Only.refl _ _⟩
    rw [F.out.2, set_same E.out.1]; exact H.out

set_option maxHeartbeats 1000000 in
set_option maxRecDepth 100000 in
theorem ref_Held {w : World} {X P Q : Nat} {O C : List Int} (h : RefIs w X P Q O C) (hbig : O.length ≤ 1024) (owner : Int) :
    Calls Try.prog 20 #[.pointer (some ⟨X, 0, none⟩), .int .i64 owner] w fun e w' => ∃ r, e = .returned r ∧ NumsIn w' r (heldZ owner O) ∧ Below w.heap.size w w' := by
  obtain ⟨i0, hi, hz0, hz1, hz2⟩ := info_parts infoInt
  have H := Lib.hid h
  clear h
  by_cases ho : 1 ≤ owner
  · have Z := Lib.hid (show heldZ owner O = heldTo owner O O.length by unfold heldZ; rw [if_pos ho])
    have ho1 : decide (1 ≤ owner) = true := by simpa using ho
    go_enter Try.func20, Try.ntmps20
    go_wp2_with fail
    go_loopw [5, 6] (fun o i wr => ∃ (k : Nat) (M : List Int), k ≤ O.length ∧ M.length ≤ k ∧ i = .int .i64 k ∧ Hid (heldTo owner O k = M) ∧ wr.ownsRow w.heap.size 3 1 o M.length (M.map numV) ∧ Below w.heap.size w wr) (fun _ i _ => O.length - (intOf i).toNat)
    case atStart => exact ⟨0, [], Nat.zero_le _, Nat.le_refl _, rfl, rfl, World.ownsRow_nil _ _ _ _, Below.refl _ _⟩
    case round =>
      obtain ⟨k, M, hk, hM, rfl, F, hrow, hB⟩ := hrel
      have hbs := hB.size
      have hr := H.out.below hB
      by_cases hlt : k < O.length
      · obtain ⟨y, hy⟩ : ∃ y, C[k]? = some y := ⟨_, List.getElem?_eq_getElem (by rw [hr.len]; exact hlt)⟩
        obtain ⟨c0, _, c2, _⟩ := hr.reads (List.getElem?_eq_getElem hlt) hy
        clear hy
        have E := Lib.hid (getD_at hlt)
        generalize O[k] = s at c2 E
        clear hr
        by_cases hy : s = owner
        · have hy1 : (s == owner) = true := eqI _ _ hy
          have F2 := Lib.hid (heldTo_yes (E.out.trans hy))
          clear hy
          go_wp2_with (at_builtin; refine wpList_append_own _ rfl _ _ 29 rfl w.heap.size 3 i0 (.int .i64 0) 1 8 Try.underlying29 hi hz0 hz1 hz2 rfl (by decide) _ _ _ rfl (hrow.alloc _) ⟨wr.heap.size, 0, none⟩ 1 1 [.int .i64 (k : Int)] rfl rfl (cell_one_new _ _ _) (by simp [Value.oneCell']) (by simp only [maxLen]; omega) (by omega) (by simp; omega) ?_; intro v' w1 hown' hgrow _; obtain ⟨g', cap', rfl⟩ := ownsRow_succ hown')
          go_roundw
          case rel => exact ⟨k + 1, M ++ [(k : Int)], by omega, by simp; omega, by go_num, Lib.hid (F2.out.trans (by rw [F.out])), own_snoc hown' (by simp), (hB.alloc hbs _).grown hgrow (by simp; omega) (fun j e => own_base3 hrow j e)⟩
          case measure => simp [intOf]; omega
        · have hy1 : (s == owner) = false := neI _ _ hy
          have F2 := Lib.hid (heldTo_no (fun e => hy (E.out.symm.trans e)))
          clear hy
          go_wp2
          go_roundw
          case rel => exact ⟨k + 1, M, by omega, by omega, by go_num, Lib.hid (F2.out.trans F.out), hrow, hB⟩
          case measure => simp [intOf]; omega
      · obtain rfl : k = O.length := by omega
        obtain ⟨a, c, h1, _⟩ := hr.head
        have c0 := h1.at (o := 0) rfl
        clear hr h1
        go_wp2
        go_ret
        exact ⟨_, rfl, by rw [Z.out, F.out]; exact SliceK.of_own hrow, hB⟩
  · have Z := Lib.hid (show heldZ owner O = [] by unfold heldZ; rw [if_neg ho])
    have ho1 : decide (1 ≤ owner) = false := by simpa using ho
    obtain ⟨a, c, h1, _⟩ := H.out.head
    have c0 := h1.at (o := 0) rfl
    clear h1 ho
    go_enter Try.func20, Try.ntmps20
    go_wp2_with fail
    go_loopw [5, 6] (fun o i wr => i = .int .i64 0 ∧ o = .slice none 0 0 ∧ w = wr) (fun _ _ _ => 0)
    case atStart => exact ⟨rfl, rfl, rfl⟩
    case round =>
      obtain ⟨rfl, rfl, rfl⟩ := hrel
      go_wp2
      all_goals go_ret
      all_goals exact ⟨_, rfl, by rw [Z.out]; exact ⟨rfl, .inl ⟨rfl, rfl⟩⟩, Below.refl _ _⟩

end Go.Proofs.Ythhhbcjnihnlmaa
