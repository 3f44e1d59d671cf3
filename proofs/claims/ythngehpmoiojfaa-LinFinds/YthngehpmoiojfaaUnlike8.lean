/- Layer 8 (package lin): unlike. -/
import Derived.Test.YthngehpmoiojfaaSe8
import Derived.Deep.MidRow
import Derived.Deep.RegionHeld3
namespace Go.Proofs.Ythngehpmoiojfaa
open Go.RowKit

theorem any_step8 {α : Type} (p : α → Bool) (L : List α) (k : Nat) (x : α) (hx : L[k]? = some x) (h0 : (L.take k).any p = false) (h1 : p x = false) : Hid ((L.take (k + 1)).any p = false) := by
  obtain ⟨hk, e⟩ := List.getElem?_eq_some_iff.1 hx
  exact Lib.hid (by rw [List.take_succ_eq_append_getElem hk, List.any_append, h0, e]; simp [h1])
theorem any_at8 {α : Type} (p : α → Bool) (L : List α) (k : Nat) (x : α) (hx : L[k]? = some x) (h1 : p x = true) : L.any p = true :=
  List.any_eq_true.2 ⟨x, List.mem_of_getElem? hx, h1⟩
/-- What unlike's closure reads. -/
def UnS (w : World) (Bs Bj B b off c i j n : Nat) (x y : CallZ) : Prop := (w.cell? ⟨Bs, 0, none⟩ = some (.pointer (some ⟨B, 0, none⟩)) ∧ w.cell? ⟨Bj, 0, none⟩ = some (numV (j : Int)) ∧ w.cell? ⟨B, 4, none⟩ = some (.slice (some ⟨b, off, none⟩) n c)) ∧ w.rangeAt b (off + i * 15) (callV x) ∧ w.rangeAt b (off + j * 15) (callV y)
theorem cell_lt {w : World} {p : Addr} {v : Value} (h : w.cell? p = some v) : p.block < w.heap.size := by
  false_or_by_contra
  rename_i hn
  unfold World.cell? at h
  rw [Array.getElem?_eq_none (by omega)] at h
  cases h
theorem UnS.below {w w' : World} {Bs Bj B b off c i j n : Nat} {x y : CallZ} (h : UnS w Bs Bj B b off c i j n x y) (hb : Below w.heap.size w w') : UnS w' Bs Bj B b off c i j n x y := by
  obtain ⟨⟨h1, h2, h3⟩, h4, h5⟩ := h
  have R : ∀ {o : Nat} {z : CallZ}, w.rangeAt b o (callV z) → w'.rangeAt b o (callV z) := fun h k v hv => (hb.cell (p := ⟨b, _, none⟩) (cell_lt (h k v hv))).trans (h k v hv)
  exact ⟨⟨(hb.cell (cell_lt h1)).trans h1, (hb.cell (cell_lt h2)).trans h2, (hb.cell (cell_lt h3)).trans h3⟩, R h4, R h5⟩

set_option maxHeartbeats 2000000 in
theorem un_stands {w : World} {Bs Bj B : Nat} {cv : Value} {L : List CallZ} {i j : Nat} (hs : w.cell? ⟨Bs, 0, none⟩ = some (.pointer (some ⟨B, 0, none⟩))) (hj : w.cell? ⟨Bj, 0, none⟩ = some (numV (j : Int))) (hc : w.cell? ⟨B, 4, none⟩ = some cv) (hL : CallsIn w cv L) (hi : i < L.length) (hjl : j < L.length) :
    Calls Try.prog 46 #[numV (i : Int), .pointer (some ⟨Bs, 0, none⟩), .pointer (some ⟨Bj, 0, none⟩)] w fun e w' => e = .returned (.bool (stands (atZ L (i : Int)) (atZ L (j : Int)))) ∧ Below w.heap.size w w' := by
  obtain ⟨a, c, rfl, hr⟩ := hL
  obtain ⟨b, off, rfl, hb, hri⟩ := hr.range hi
  obtain ⟨b', off', e', _, hrj⟩ := hr.range hjl
  cases e'
  rw [atZ_nat hi, atZ_nat hjl]
  generalize L[i] = x at *
  generalize L[j] = y at *
  generalize hn : L.length = n at *
  have H0 : Hid (UnS w.drew Bs Bj B b off c i j n x y) := Lib.hid ⟨⟨hs, hj, hc⟩, hri, hrj⟩
  have hi' : (i : Int) < (n : Int) := by omega
  have hj' : (j : Int) < (n : Int) := by omega
  clear hr hri hrj hn hs hj hc hb
  go_enter Try.func46, Try.ntmps46
  go_wp2
  refine wp_region_noPanic ?_
  refine wp_region_held_drew (S := (fun w' => (w'.cell? ⟨Bs, 0, none⟩ = some (.pointer (some ⟨B, 0, none⟩)) ∧ w'.cell? ⟨Bj, 0, none⟩ = some (numV (j : Int)) ∧ w'.cell? ⟨B, 4, none⟩ = some (.slice (some ⟨b, off, none⟩) n c)) ∧ w'.rangeAt b (off + i * 15) (callV x) ∧ w'.rangeAt b (off + j * 15) (callV y))) (by kernel_rfl) ?_ (fun hHeld => ?_)
  · first | exact H0.out.below G.out | exact H0.out
  refine wpAnyH_take (i := 0) (oi := ⟨some 5, _, _, _, _, _⟩) (v := ?_) rfl (by kernel_rfl) (by kernel_rfl) (by kernel_rfl) (fun _ _ _ h => h) (Or.inl ⟨by rfl, ?_⟩) (by assumption) ?_
  rotate_left
  · (intro w hSw; (try dsimp only at hSw); go_simp; try with_reducible rfl)
  try simp only [Act.put, List.setIfInBounds_toArray, List.set_cons_zero, List.set_cons_succ]
  refine wpAnyH_take (i := 1) (oi := ⟨some 6, _, _, _, _, _⟩) (v := ?_) rfl (by kernel_rfl) (by kernel_rfl) (by kernel_rfl) (fun _ _ _ h => h) (Or.inl ⟨by rfl, ?_⟩) (by assumption) ?_
  rotate_left
  · (intro w hSw; (try dsimp only at hSw); go_simp; try with_reducible rfl)
  try simp only [Act.put, List.setIfInBounds_toArray, List.set_cons_zero, List.set_cons_succ]
  refine wpAnyH_take (i := 2) (oi := ⟨some 7, _, _, _, _, _⟩) (v := ?_) rfl (by kernel_rfl) (by kernel_rfl) (by kernel_rfl) (fun _ _ _ h => h) (Or.inl ⟨by rfl, ?_⟩) (by assumption) ?_
  rotate_left
  · (intro w hSw; (try dsimp only at hSw); go_simp; try with_reducible rfl)
  try simp only [Act.put, List.setIfInBounds_toArray, List.set_cons_zero, List.set_cons_succ]
  refine wpAnyH_take (i := 3) (oi := ⟨some 8, _, _, _, _, _⟩) (v := ?_) rfl (by kernel_rfl) (by kernel_rfl) (by kernel_rfl) (fun _ _ _ h => h) (Or.inl ⟨by rfl, ?_⟩) (by assumption) ?_
  rotate_left
  · (intro w hSw; (try dsimp only at hSw); go_simp; try with_reducible rfl)
  try simp only [Act.put, List.setIfInBounds_toArray, List.set_cons_zero, List.set_cons_succ]
  refine wpAnyH_take (i := 4) (oi := ⟨some 9, _, _, _, _, _⟩) (v := ?_) rfl (by kernel_rfl) (by kernel_rfl) (by kernel_rfl) (fun _ _ _ h => h) (Or.inl ⟨by rfl, ?_⟩) (by assumption) ?_
  rotate_left
  · (intro w hSw; (try dsimp only at hSw); go_simp; try with_reducible rfl)
  try simp only [Act.put, List.setIfInBounds_toArray, List.set_cons_zero, List.set_cons_succ]
  refine wpAnyH_take (i := 5) (oi := ⟨some 10, _, _, _, _, _⟩) (v := ?_) rfl (by kernel_rfl) (by kernel_rfl) (by kernel_rfl) (fun _ _ _ h => h) (Or.inl ⟨by rfl, ?_⟩) (by assumption) ?_
  rotate_left
  · (intro w hSw; (try dsimp only at hSw); go_simp; try with_reducible rfl)
  try simp only [Act.put, List.setIfInBounds_toArray, List.set_cons_zero, List.set_cons_succ]
  refine wpAnyH_take (i := 6) (oi := ⟨some 11, _, _, _, _, _⟩) (v := callA x) rfl (by kernel_rfl) (by kernel_rfl) (by kernel_rfl) (fun _ _ _ h => h) (yieldsIf_load_mid (by rfl) 34 _ rfl b (off + i * 15) rfl (callV x) _ (fun w h => h.2.1) Try.underlying34 rfl (by kernel_rfl)) (by assumption) ?_
  try simp only [Act.put, List.setIfInBounds_toArray, List.set_cons_zero, List.set_cons_succ]
  refine wpAnyH_take (i := 7) (oi := ⟨some 12, _, _, _, _, _⟩) (v := ?_) rfl (by kernel_rfl) (by kernel_rfl) (by kernel_rfl) (fun _ _ _ h => h) (Or.inl ⟨by rfl, ?_⟩) (by assumption) ?_
  rotate_left
  · (intro w hSw; (try dsimp only at hSw); go_simp; try with_reducible rfl)
  try simp only [Act.put, List.setIfInBounds_toArray, List.set_cons_zero, List.set_cons_succ]
  refine wpAnyH_take (i := 8) (oi := ⟨some 13, _, _, _, _, _⟩) (v := ?_) rfl (by kernel_rfl) (by kernel_rfl) (by kernel_rfl) (fun _ _ _ h => h) (Or.inl ⟨by rfl, ?_⟩) (by assumption) ?_
  rotate_left
  · (intro w hSw; (try dsimp only at hSw); go_simp; try with_reducible rfl)
  try simp only [Act.put, List.setIfInBounds_toArray, List.set_cons_zero, List.set_cons_succ]
  refine wpAnyH_take (i := 9) (oi := ⟨some 14, _, _, _, _, _⟩) (v := ?_) rfl (by kernel_rfl) (by kernel_rfl) (by kernel_rfl) (fun _ _ _ h => h) (Or.inl ⟨by rfl, ?_⟩) (by assumption) ?_
  rotate_left
  · (intro w hSw; (try dsimp only at hSw); go_simp; try with_reducible rfl)
  try simp only [Act.put, List.setIfInBounds_toArray, List.set_cons_zero, List.set_cons_succ]
  refine wpAnyH_take (i := 10) (oi := ⟨some 15, _, _, _, _, _⟩) (v := ?_) rfl (by kernel_rfl) (by kernel_rfl) (by kernel_rfl) (fun _ _ _ h => h) (Or.inl ⟨by rfl, ?_⟩) (by assumption) ?_
  rotate_left
  · (intro w hSw; (try dsimp only at hSw); go_simp; try with_reducible rfl)
  try simp only [Act.put, List.setIfInBounds_toArray, List.set_cons_zero, List.set_cons_succ]
  refine wpAnyH_take (i := 11) (oi := ⟨some 16, _, _, _, _, _⟩) (v := ?_) rfl (by kernel_rfl) (by kernel_rfl) (by kernel_rfl) (fun _ _ _ h => h) (Or.inl ⟨by rfl, ?_⟩) (by assumption) ?_
  rotate_left
  · (intro w hSw; (try dsimp only at hSw); go_simp; try with_reducible rfl)
  try simp only [Act.put, List.setIfInBounds_toArray, List.set_cons_zero, List.set_cons_succ]
  refine wpAnyH_take (i := 12) (oi := ⟨some 17, _, _, _, _, _⟩) (v := ?_) rfl (by kernel_rfl) (by kernel_rfl) (by kernel_rfl) (fun _ _ _ h => h) (Or.inl ⟨by rfl, ?_⟩) (by assumption) ?_
  rotate_left
  · (intro w hSw; (try dsimp only at hSw); go_simp; try with_reducible rfl)
  try simp only [Act.put, List.setIfInBounds_toArray, List.set_cons_zero, List.set_cons_succ]
  refine wpAnyH_take (i := 13) (oi := ⟨some 18, _, _, _, _, _⟩) (v := callA y) rfl (by kernel_rfl) (by kernel_rfl) (by kernel_rfl) (fun _ _ _ h => h) (yieldsIf_load_mid (by rfl) 34 _ rfl b (off + j * 15) rfl (callV y) _ (fun w h => h.2.2) Try.underlying34 rfl (by kernel_rfl)) (by assumption) ?_
  try simp only [Act.put, List.setIfInBounds_toArray, List.set_cons_zero, List.set_cons_succ]
  refine wpAnyH_ready (rs := [14]) (by kernel_rfl) (by simp) ?_
  refine AllReadyH.cons (o := ⟨some 19, _, _, _, _, _⟩) rfl (fun K hK => ?_) AllReadyH.nil
  go_simp
  refine (lin_standsFor x y _).mono ?_
  rintro e w6 ⟨rfl, hb6⟩
  have G := Lib.hid hb6
  clear hb6
  go_wp2_with fail
  refine hK.out _ _ ?_ (fun hHeldX => ?_)
  · first | exact H0.out.below G.out | exact H0.out
  clear hK K hHeld
  rename _ => hHeld
  try simp only [Act.put, List.setIfInBounds_toArray, List.set_cons_zero, List.set_cons_succ]
  refine wpAnyH_take (i := 15) (oi := ⟨some 4, _, _, _, _, _⟩) (v := ?_) rfl (by kernel_rfl) (by kernel_rfl) (by kernel_rfl) (fun _ _ _ h => h) (Or.inl ⟨by rfl, ?_⟩) (by assumption) ?_
  rotate_left
  · (intro w hSw; (try dsimp only at hSw); go_simp; try with_reducible rfl)
  try simp only [Act.put, List.setIfInBounds_toArray, List.set_cons_zero, List.set_cons_succ]
  refine wpAnyH_done (by kernel_rfl) ?_ _
  refine NoPanic.normal ?_
  go_wp2
  go_ret
  exact ⟨rfl, below_step (below_draws (Below.refl _ w) 1) G.out⟩


set_option maxHeartbeats 1000000 in
theorem un_index {w : World} {Bs Bj B : Nat} {cv v : Value} {L : List CallZ} {P : List Int} {j : Nat} (hs : w.cell? ⟨Bs, 0, none⟩ = some (.pointer (some ⟨B, 0, none⟩))) (hj : w.cell? ⟨Bj, 0, none⟩ = some (numV (j : Int))) (hc : w.cell? ⟨B, 4, none⟩ = some cv) (hL : CallsIn w cv L) (hjl : j < L.length)
    (hv : NumsIn w v P) (hP : ∀ x ∈ P, ∃ m : Nat, x = (m : Int) ∧ m < L.length) (hPl : P.length ≤ 1000000) :
    Calls Try.prog 52 #[v, .func (.func 46) #[] #[.pointer (some ⟨Bs, 0, none⟩), .pointer (some ⟨Bj, 0, none⟩)]] w fun e w' => ∃ r : Int, e = .returned (.int .i64 r) ∧ decide (0 ≤ r) = (P.any fun i => stands (atZ L i) (atZ L (j : Int))) ∧ Below w.heap.size w w' := by
  obtain ⟨a, c, rfl, hr⟩ := hv.form
  have H := Lib.hid hr
  have HP := Lib.hid hP
  have HL := Lib.hid hL
  clear hr hP hL hv
  go_enter Try.func52, Try.ntmps52
  go_wp2
  go_loopw [8] (fun i wr => ∃ (k : Nat), k ≤ P.length ∧ i = .int .i64 k ∧ Hid ((P.take k).any (fun i => stands (atZ L i) (atZ L (j : Int))) = false) ∧ Below w.heap.size w wr) (fun i _ => P.length - (intOf i).toNat)
  case atStart => exact ⟨0, Nat.zero_le _, rfl, Lib.hid rfl, Below.refl _ _⟩
  case round =>
    obtain ⟨k, hk, rfl, F, hB⟩ := hrel
    by_cases hlt : k < P.length
    · obtain ⟨b, off, rfl, hb, hr⟩ := H.out k hlt
      have hx : P[k]? = some (P.getD k 0) := by rw [List.getElem?_eq_getElem hlt, getD_at hlt]
      obtain ⟨m, hm, hml⟩ := HP.out (P.getD k 0) (List.mem_of_getElem? hx)
      have HX := Lib.hid hx
      rw [hm] at hr HX
      have hr2 := (hB.cell (p := ⟨b, off + k, none⟩) hb).trans hr
      clear hr hx hm
      go_wp2_with fail
      refine (un_stands ((hB.cell (cell_lt hs)).trans hs) ((hB.cell (cell_lt hj)).trans hj) ((hB.cell (cell_lt hc)).trans hc) (HL.out.below hB) hml hjl).mono ?_
      rintro e w' ⟨rfl, hb'⟩
      cases hst : stands (atZ L (m : Int)) (atZ L (j : Int))
      · have HM := Lib.hid hst
        clear hst
        go_wp2
        go_roundw
        case rel => exact ⟨k + 1, by omega, by go_num, any_step8 _ P k _ HX.out F.out HM.out, below_step hB hb'⟩
        case measure => simp [intOf]; omega
      · have HM := Lib.hid hst
        clear hst
        go_wp2
        go_ret
        exact ⟨k, rfl, by rw [any_at8 _ P k _ HX.out HM.out]; simp, below_step hB hb'⟩
    · obtain rfl : k = P.length := by omega
      go_wp2
      go_ret
      exact ⟨-1, rfl, by rw [← List.take_length (l := P), F.out]; rfl, hB⟩
theorem un_contains {w : World} {Bs Bj B : Nat} {cv v : Value} {L : List CallZ} {P : List Int} {j : Nat} (hs : w.cell? ⟨Bs, 0, none⟩ = some (.pointer (some ⟨B, 0, none⟩))) (hj : w.cell? ⟨Bj, 0, none⟩ = some (numV (j : Int))) (hc : w.cell? ⟨B, 4, none⟩ = some cv) (hL : CallsIn w cv L) (hjl : j < L.length)
    (hv : NumsIn w v P) (hP : ∀ x ∈ P, ∃ m : Nat, x = (m : Int) ∧ m < L.length) (hPl : P.length ≤ 1000000) :
    Calls Try.prog 45 #[v, .func (.func 46) #[] #[.pointer (some ⟨Bs, 0, none⟩), .pointer (some ⟨Bj, 0, none⟩)]] w fun e w' => e = .returned (.bool (P.any fun i => stands (atZ L i) (atZ L (j : Int)))) ∧ Below w.heap.size w w' := by
  go_enter Try.func45, Try.ntmps45
  go_wp2_with fail
  refine (un_index hs hj hc hL hjl hv hP hPl).mono ?_
  rintro e w' ⟨r, rfl, hr, hb⟩
  have R := Lib.hid hr
  clear hr
  go_wp2
  go_ret
  exact ⟨by rw [← R.out]; rfl, hb⟩

theorem unlike_take (L : List CallZ) (P : List Int) (k : Nat) (hk : k < P.length) : (P.take (k + 1)).foldl (unlikeStep L) [] = unlikeStep L ((P.take k).foldl (unlikeStep L) []) P[k] := by
  rw [List.take_succ_eq_append_getElem hk, List.foldl_append]
  rfl
set_option maxHeartbeats 2000000 in
/-- unlike. -/
theorem se_unlike {K : Nat → Prop} {w : World} {B : Nat} {s0 : StZ} {L : List CallZ} {cv mv v : Value} {x : Se} {P : List Int} (h : SeIs K w B s0 L cv mv x) (hv : NumsIn w v P) (hP : ∀ x ∈ P, ∃ m : Nat, x = (m : Int) ∧ m < L.length) (hPl : P.length ≤ 1000) :
    Calls Try.prog 33 #[.pointer (some ⟨B, 0, none⟩), v] w fun e w' => ∃ r, e = .returned r ∧ w'.ownsRow w.heap.size 3 1 r (unlikeZ L P).length ((unlikeZ L P).map numV) ∧ Below w.heap.size w w' := by
  obtain ⟨i0, hi0, hz0, hz1, hz2⟩ := info_parts infoInt
  obtain ⟨a, c, rfl, hr⟩ := hv.form
  have H := Lib.hid hr
  have HP := Lib.hid hP
  have HS := Lib.hid h
  have HM := Lib.hid (show ∀ k x, x ∈ (P.take k).foldl (unlikeStep L) [] → ∃ m : Nat, x = (m : Int) ∧ m < L.length from fun k x hx => by
    rcases unlike_mem L _ _ x hx with h | h
    · cases h
    · exact hP x (List.mem_of_mem_take h))
  clear hr hP hv h
  go_enter Try.func33, Try.ntmps33
  go_wp2
  have hn0 : (w.alloc (.cells #[.pointer (some ⟨B, 0, none⟩)] 72)).heap.size = w.heap.size + 1 := by simp
  have X0 : Hid (Below w.heap.size w (w.alloc (.cells #[.pointer (some ⟨B, 0, none⟩)] 72)) ∧ (w.alloc (.cells #[.pointer (some ⟨B, 0, none⟩)] 72)).cell? ⟨w.heap.size, 0, none⟩ = some (.pointer (some ⟨B, 0, none⟩))) := Lib.hid ⟨(Below.refl _ _).alloc (Nat.le_refl _) _, (Blk.new (l := [.pointer (some ⟨B, 0, none⟩)])).at (o := 0) rfl⟩
  generalize w.alloc (.cells #[.pointer (some ⟨B, 0, none⟩)] 72) = w0 at *
  go_loopw [5, 10] (fun o s wr => ∃ (k : Nat) (M : List Int), k ≤ P.length ∧ M.length ≤ k ∧ s = .int .i64 k ∧ Hid ((P.take k).foldl (unlikeStep L) [] = M) ∧ wr.ownsRow w0.heap.size 3 1 o M.length (M.map numV) ∧ Below w0.heap.size w0 wr) (fun _ s _ => P.length - (intOf s).toNat)
  case atStart => exact ⟨0, [], Nat.zero_le _, Nat.le_refl _, rfl, Lib.hid rfl, World.ownsRow_nil _ _ _ _, Below.refl _ _⟩
  case round =>
    obtain ⟨k, M, hk, hM, rfl, F, hrow, hBB⟩ := hrel
    have hB := below_step X0.out.1 hBB
    have hbx := (hBB.cell (p := ⟨w.heap.size, 0, none⟩) (by show w.heap.size < _; omega)).trans X0.out.2
    by_cases hlt : k < P.length
    · obtain ⟨b, off, rfl, hb, hr⟩ := H.out k hlt
      obtain ⟨j, hj, hjl⟩ := HP.out (P.getD k 0) (by rw [getD_at hlt]; exact List.getElem_mem hlt)
      have F2 := Lib.hid (unlike_take L P k hlt)
      rw [← getD_at hlt] at F2
      rw [hj] at hr F2
      have hr2 := (hB.cell (p := ⟨b, off + k, none⟩) hb).trans hr
      clear hr hj
      go_wp2_with fail
      have hB0 := hB.alloc hB.size (.cells #[.int .i64 (j : Int)] 3)
      have a0 : Below wr.heap.size wr (wr.alloc (.cells #[.int .i64 (j : Int)] 3)) := (Below.refl _ _).alloc (Nat.le_refl _) _
      have hx0 := (a0.cell (cell_lt hbx)).trans hbx
      have hj0 : (wr.alloc (.cells #[.int .i64 (j : Int)] 3)).cell? ⟨wr.heap.size, 0, none⟩ = some (numV (j : Int)) := (Blk.new (l := [.int .i64 (j : Int)])).at (o := 0) rfl
      have hS0 := HS.out.below hB0
      have hrow0 := own_only hrow (Only.of_below a0 (fun _ => False)) (fun _ _ => id)
      refine (un_contains hx0 hj0 hS0.callsAt hS0.calls.in hjl (SliceK.of_own hrow0) (fun y hy => HM.out k y (by rw [F.out]; exact hy)) (by omega)).mono ?_
      rintro e w2 ⟨rfl, hb2⟩
      have hB2 := Lib.hid (below_step (hBB.alloc hBB.size (.cells #[.int .i64 (j : Int)] 3)) hb2)
      have hj2 := (hb2.cell (cell_lt hj0)).trans hj0
      have hrow2 := own_only hrow0 (Only.of_below hb2 (fun _ => False)) (fun _ _ => id)
      have hsz := hb2.size
      obtain ⟨oa, oc, rfl⟩ := own_form hrow2
      clear hx0 hj0 hS0 a0 hr2 hrow0 hb2
      cases hst : M.any fun i => stands (atZ L i) (atZ L (j : Int))
      · have F3 := Lib.hid (show (P.take (k + 1)).foldl (unlikeStep L) [] = M ++ [(j : Int)] by rw [F2.out, F.out]; unfold unlikeStep; rw [if_neg (by rw [hst]; decide)])
        clear hst
        have hs9 := hB2.out.size
        go_wp2_with (at_builtin; refine wpList_append_own _ rfl _ _ 23 rfl w0.heap.size 3 i0 (.int .i64 0) 1 8 Try.underlying23 hi0 hz0 hz1 hz2 rfl (by decide) _ _ _ rfl (hrow2.alloc _) ⟨w2.heap.size, 0, none⟩ 1 1 [.int .i64 (j : Int)] rfl rfl (cell_one_new _ _ _) (by simp [Value.oneCell']) (by simp only [maxLen]; omega) (by omega) (by simp; omega) ?_; intro v' w9 hown' hgrow hnil')
        go_roundw
        case rel => exact ⟨k + 1, M ++ [(j : Int)], by omega, by simp; omega, by go_num, F3, own_snoc hown' (by simp), (hB2.out.alloc hs9 _).grown hgrow (by simp; omega) (fun j e => own_base3 hrow2 j e)⟩
        case measure => simp [intOf]; omega
      · have F3 := Lib.hid (show (P.take (k + 1)).foldl (unlikeStep L) [] = M by rw [F2.out, F.out]; unfold unlikeStep; rw [if_pos hst])
        clear hst
        go_wp2
        go_roundw
        case rel => exact ⟨k + 1, M, by omega, by omega, by go_num, F3, hrow2, hB2.out⟩
        case measure => simp [intOf]; omega
    · obtain rfl : k = P.length := by omega
      go_wp2
      go_ret
      exact ⟨_, rfl, by rw [show unlikeZ L P = M by rw [← F.out, List.take_length]; rfl]; exact own_low hrow (by omega), hB⟩

end Go.Proofs.Ythngehpmoiojfaa
