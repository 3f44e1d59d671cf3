/- Layer 9: the document's answer (bellmanref09) in memory: Advance. -/
import Derived.Test.YtkbappdlijmjlaaRefEpB9
namespace Go.Proofs.Ytkbappdlijmjlaa
open Go.RowKit

def lateR (n : Int) (p : Int) : Bool := decide (0 ≤ p) && !decide (p = n)
theorem late_eq (x : Ep) : (x.pins.map pinZ).any (lateR (x.now : Int)) = behindZ x := by
  rw [behind_eq, List.any_map]
  congr 1
  funext p
  cases p with
  | none => rfl
  | some e =>
    simp only [Function.comp, lateR, lateZ, pinZ, Option.isSome_some, Option.getD_some, Bool.true_and]
    have h0 : (0 : Int) ≤ (e : Int) := Int.natCast_nonneg _
    by_cases he : e = x.now <;> simp [he, Int.natCast_inj]
section
variable {w : World} {lo X : Nat} {v : Nat → Value} {x : RE}
set_option maxHeartbeats 1000000 in
theorem ref_Advance_no9 (h : ReIs w lo X v x) (hl : (x.q 0).length ≤ 64) (hb : (x.q 0).any (lateR (x.now : Int)) = true) : Calls Try.prog 16 #[.pointer (some ⟨X, 0, none⟩)] w fun e w' => e = .returned (.tuple #[.slice none 0 0, .bool false]) ∧ Below w.heap.size w w' := by
  have H := Lib.hid h
  have HB := Lib.hid hb
  clear h hb
  go_enter Try.func16, Try.ntmps16
  go_wp2
  go_loopw [4] (fun i wr => ∃ (k n : Nat), k ≤ (x.q 0).length ∧ i = .int .i64 k ∧ wr = w.drewN n ∧ Hid (((x.q 0).take k).any (lateR (x.now : Int)) = false)) (fun i _ => (x.q 0).length - (intOf i).toNat)
  case atStart => exact ⟨0, 0, Nat.zero_le _, rfl, rfl, Lib.hid rfl⟩
  case round =>
    obtain ⟨k, n, hk, rfl, rfl, HN⟩ := hrel
    have c0 : w.cell? ⟨X, 0, none⟩ = some (.int .i64 (x.now : Int)) := H.out.blk.at rfl
    have c1 : w.cell? ⟨X, 1, none⟩ = some (v 0) := H.out.blk.at (reV_at (j := 0) (by decide))
    by_cases hlt : k < (x.q 0).length
    · obtain ⟨g, cap, e2, c2, _⟩ := H.out.pin hlt
      rw [e2] at c1
      have hat := any_take (f := lateR (x.now : Int)) hlt
      rw [HN.out, Bool.false_or] at hat
      have HA := Lib.hid hat
      have HM := Lib.hid (show lateR (x.now : Int) (x.q 0)[k] = true → (x.q 0).any (lateR (x.now : Int)) = true from fun e => List.any_eq_true.2 ⟨_, List.getElem_mem hlt, e⟩)
      generalize (x.q 0)[k] = y at c2 HA HM
      clear hat e2
      by_cases hy : 0 ≤ y
      · have hy1 : decide (0 ≤ y) = true := by simpa using hy
        by_cases hn : y = (x.now : Int)
        · have hn1 : (y != (x.now : Int)) = false := by simpa using hn
          have HL := Lib.hid (show lateR (x.now : Int) y = false by unfold lateR; simp [hn])
          clear hn hy
          go_wp2
          go_quiet (fail)
          go_wp2
          go_roundw
          case rel => exact ⟨k + 1, _, by omega, by go_num, rfl, Lib.hid (HA.out.trans HL.out)⟩
          case measure => simp [intOf]; omega
        · have hn1 : (y != (x.now : Int)) = true := by simpa using hn
          have HL := Lib.hid (show lateR (x.now : Int) y = true by unfold lateR; simp [hn, hy])
          clear hn hy
          go_wp2
          go_quiet (fail)
          go_wp2
          go_ret2
          exact ⟨rfl, below_draws (below_draws (Below.refl _ _) _) _⟩
      · have hy1 : decide (0 ≤ y) = false := by simpa using hy
        have HL := Lib.hid (show lateR (x.now : Int) y = false by unfold lateR; simp [hy])
        clear hy
        go_wp2
        go_quiet (fail)
        go_wp2
        go_roundw
        case rel => exact ⟨k + 1, _, by omega, by go_num, rfl, Lib.hid (HA.out.trans HL.out)⟩
        case measure => simp [intOf]; omega
    · obtain rfl : k = (x.q 0).length := by omega
      have hnb := HN.out
      rw [List.take_length] at hnb
      rw [HB.out] at hnb
      cases hnb
theorem ReIs.read (h : ReIs w lo X v x) {j : Nat} (hj : j < 3) {i : Nat} (hi : i < (x.q j).length) : ∃ g cap, v j = .slice (some ⟨g, 0, none⟩) (x.q j).length cap ∧ w.cell? ⟨g, i, none⟩ = some (numV (x.q j)[i]) ∧ g < w.heap.size := by
  have h0 := h.own.own j hj
  obtain ⟨g, hg⟩ : ∃ g, (v j).ownBlock = some g := by
    rcases h0.2 with ⟨_, e⟩ | ⟨g, cap, cur, e, _⟩
    · omega
    · exact ⟨g, by rw [e]; rfl⟩
  obtain ⟨l, cap, e, _, hb, ht, hle⟩ := own_heap h0 hg
  refine ⟨g, cap, e, hb.at ?_, hb.lt⟩
  have h1 : ((x.q j).map numV)[i]? = some (numV (x.q j)[i]) := by rw [List.getElem?_map, List.getElem?_eq_getElem hi]; rfl
  rw [← ht, List.getElem?_take] at h1
  split at h1
  · exact h1
  · cases h1
theorem ReIs.waits {W : List (Int × Nat)} (h : ReIs w lo X v x) (h1 : x.q 1 = W.map (·.1)) (h2 : x.q 2 = W.map fun p => (p.2 : Int)) {k : Nat} (hk : k < W.length) : ∃ g1 c1 g2 c2, v 1 = .slice (some ⟨g1, 0, none⟩) W.length c1 ∧ v 2 = .slice (some ⟨g2, 0, none⟩) W.length c2 ∧
    w.cell? ⟨g1, k, none⟩ = some (numV W[k].1) ∧ w.cell? ⟨g2, k, none⟩ = some (numV (W[k].2 : Int)) ∧ g1 < w.heap.size ∧ g2 < w.heap.size := by
  obtain ⟨g1, c1, e1, d1, l1⟩ := h.read (j := 1) (by decide) (i := k) (by rw [h1]; simpa using hk)
  obtain ⟨g2, c2, e2, d2, l2⟩ := h.read (j := 2) (by decide) (i := k) (by rw [h2]; simpa using hk)
  refine ⟨g1, c1, g2, c2, ?_, ?_, ?_, ?_, l1, l2⟩
  · rw [e1, h1, List.length_map]
  · rw [e2, h2, List.length_map]
  · rw [d1]; simp [h1]
  · rw [d2]; simp [h2]
/-- What a round reads. -/
theorem ReIs.reads {W : List (Int × Nat)} (h : ReIs w lo X v x) (h1 : x.q 1 = W.map (·.1)) (h2 : x.q 2 = W.map fun p => (p.2 : Int)) {k : Nat} (hk : k < W.length) : ∃ g1 c1 g2 c2, ∀ w', Below w.heap.size w w' → w'.cell? ⟨X, 0, none⟩ = some (.int .i64 (x.now : Int)) ∧ w'.cell? ⟨X, 2, none⟩ = some (.slice (some ⟨g1, 0, none⟩) W.length c1) ∧
    w'.cell? ⟨X, 3, none⟩ = some (.slice (some ⟨g2, 0, none⟩) W.length c2) ∧ w'.cell? ⟨g1, k, none⟩ = some (numV W[k].1) ∧ w'.cell? ⟨g2, k, none⟩ = some (numV (W[k].2 : Int)) := by
  obtain ⟨g1, c1, g2, c2, e1, e2, k1, k2, l1, l2⟩ := h.waits h1 h2 hk
  refine ⟨g1, c1, g2, c2, fun w' hb => ⟨(h.below hb).blk.at rfl, ?_, ?_, (hb.cell (p := ⟨g1, k, none⟩) l1).trans k1, (hb.cell (p := ⟨g2, k, none⟩) l2).trans k2⟩⟩
  · rw [← e1]; exact (h.below hb).blk.at (reV_at (j := 1) (by decide))
  · rw [← e2]; exact (h.below hb).blk.at (reV_at (j := 2) (by decide))
/-- A loop's own rows, one of them grown. -/
theorem own3_turn {wA wr w9 : World} {u : Nat → Value} {q : Nat → List Int} {ob : Obj} {g' cap' j m : Nat} {y : Int} (h : Own3 wr wA.heap.size u q) (hB : Below wA.heap.size wA wr) (hj : j < 3) (hgrow : ((wr.drewN m).alloc ob).grownBy w9 (u j).ownBlock) (hlie : (u j).ownBlock = some g' ∨ g' = (wr.drewN m).heap.size + 1)
    (hown : w9.ownsRow wA.heap.size 3 1 (.slice (some ⟨g', 0, none⟩) ((q j).length + 1) cap') ((q j).length + 1) ((q j).map numV ++ [numV y])) :
    Own3 w9 wA.heap.size (upd u j (.slice (some ⟨g', 0, none⟩) ((q j).length + 1) cap')) (upd q j (q j ++ [y])) ∧ Below wA.heap.size wA w9 := by
  have hd : Own3 (wr.drewN m) wA.heap.size u q := h.only ((Only.refl (fun _ => False) _).drewN m) (fun _ _ => id)
  obtain ⟨h1, h2, _⟩ := own3_grown hd hj hgrow hlie hown
  exact ⟨h1, Only.below_step (below_draws hB m).size (below_draws hB m) h2 (fun i hi e => by have := (hd.lt e).1; omega)⟩
/-- What is told, and what stays. -/
def advQ (n : Nat) (W : List (Int × Nat)) : Nat → List Int := upd (upd (pinsQ ((W.filter (oldZ n)).map (·.1))) 1 ((W.filter fun p => !oldZ n p).map (·.1))) 2 ((W.filter fun p => !oldZ n p).map fun p => (p.2 : Int))
theorem advQ_old {n : Nat} {T : List (Int × Nat)} {p : Int × Nat} (h : oldZ n p = true) : advQ n (T ++ [p]) = upd (advQ n T) 0 (advQ n T 0 ++ [p.1]) := by
  have a1 : (T ++ [p]).filter (oldZ n) = T.filter (oldZ n) ++ [p] := by rw [List.filter_append]; simp [h]
  have a2 : (T ++ [p]).filter (fun p => !oldZ n p) = T.filter fun p => !oldZ n p := by rw [List.filter_append]; simp [h]
  funext k
  unfold advQ
  rw [a1, a2]
  match k with
  | 0 => simp [upd, pinsQ]
  | 1 => simp [upd]
  | 2 => simp [upd]
  | k + 3 => simp [upd, pinsQ]
theorem advQ_new {n : Nat} {T : List (Int × Nat)} {p : Int × Nat} (h : oldZ n p = false) : advQ n (T ++ [p]) = upd (upd (advQ n T) 1 (advQ n T 1 ++ [p.1])) 2 (advQ n T 2 ++ [(p.2 : Int)]) := by
  have a1 : (T ++ [p]).filter (oldZ n) = T.filter (oldZ n) := by rw [List.filter_append]; simp [h]
  have a2 : (T ++ [p]).filter (fun p => !oldZ n p) = (T.filter fun p => !oldZ n p) ++ [p] := by rw [List.filter_append]; simp [h]
  funext k
  unfold advQ
  rw [a1, a2]
  match k with
  | 0 => simp [upd, pinsQ]
  | 1 => simp [upd]
  | 2 => simp [upd]
  | k + 3 => simp [upd, pinsQ]
theorem advQ_len (n : Nat) (T : List (Int × Nat)) (j : Nat) (hj : j < 3) : (advQ n T j).length ≤ T.length := by
  have h1 := List.length_filter_le (oldZ n) T
  have h2 := List.length_filter_le (fun p => !oldZ n p) T
  match j, hj with
  | 0, _ => simpa [advQ, upd, pinsQ] using h1
  | 1, _ => simpa [advQ, upd, pinsQ] using h2
  | 2, _ => simpa [advQ, upd, pinsQ] using h2
theorem own_nils (w : World) (lo n : Nat) : Own3 w lo (fun _ => .slice none 0 0) (advQ n []) := by
  refine ⟨fun j hj => ?_, (Own3.nil w lo).sep⟩
  have : advQ n [] j = [] := List.eq_nil_of_length_eq_zero (by have := advQ_len n [] j hj; simpa using this)
  rw [this]
  exact World.ownsRow_nil _ _ _ _
/-- Behind an Advance. -/
structure RAdv (lo X : Nat) (v : Nat → Value) (n : Nat) (L : List Int) (W : List (Int × Nat)) (w : World) (e : Ending) (w' : World) : Prop where
  ex : ∃ r v', e = .returned (.tuple #[r, .bool true]) ∧ NumsIn w' r ((W.filter (oldZ n)).map (·.1)) ∧
    ReIs w' lo X v' ⟨n, upd (upd (pinsQ L) 1 ((W.filter fun p => !oldZ n p).map (·.1))) 2 ((W.filter fun p => !oldZ n p).map fun p => (p.2 : Int))⟩ ∧ VNew w.heap.size v v'
  only : Only (· = X) w w'
theorem own_low {w : World} {base lo : Nat} {e : TypeId} {size n : Nat} {v : Value} {xs : List Value} (h : w.ownsRow base e size v n xs) (hl : lo ≤ base) : w.ownsRow lo e size v n xs := by
  obtain ⟨h0, h1 | ⟨g, cap, cur, e1, h2, h3⟩⟩ := h
  · exact ⟨h0, .inl h1⟩
  · exact ⟨h0, .inr ⟨g, cap, cur, e1, by omega, h3⟩⟩
theorem radv {W : List (Int × Nat)} {wA wr : World} {n : Nat} {u : Nat → Value} {q : Nat → List Int} (hw : Only (· = X) w wA) (hlo : lo ≤ w.heap.size) (h : ReIs wA lo X v ⟨n, q⟩) (hB : Below wA.heap.size wA wr) (hu : Own3 wr wA.heap.size u (advQ n W)) :
    RAdv lo X v n (q 0) W w (.returned (.tuple #[u 0, .bool true])) ((wr.setCell ⟨X, 2, none⟩ (u 1)).setCell ⟨X, 3, none⟩ (u 2)) := by
  have hz := hw.size
  have h' := h.below hB
  have ho : Only (· = X) wr ((wr.setCell ⟨X, 2, none⟩ (u 1)).setCell ⟨X, 3, none⟩ (u 2)) := (only_at _ _ _ _).trans (only_at _ _ _ _)
  have hne : ∀ k, InV u k → k ≠ X := fun k hk e => by have := (hu.lt hk).1; have := h.blk.lt; omega
  have hu' := hu.only ho hne
  have hv' := h'.own.only ho (fun k hk => h'.apart hk)
  have hsep : ∀ j g, j < 3 → (v 0).ownBlock = some g → (u j).ownBlock = some g → False := fun j g hj h1 h2 => by
    have := (hu.lt ⟨j, hj, h2⟩).1
    have := (h.own.lt ⟨0, by decide, h1⟩).2
    omega
  refine ⟨⟨u 0, upd (upd v 1 (u 1)) 2 (u 2), rfl, SliceK.of_own (own_low (hu'.own 0 (by decide)) (Nat.zero_le _)), ⟨?_, fun j hj => ?_, fun i j g hi hj h1 h2 => ?_⟩, fun k ⟨j, hj, e⟩ => ?_⟩, (hw.trans (Only.of_below hB _)).trans ho⟩
  · have := (h'.blk.set (1 + 1) (u 1)).set (1 + 2) (u 2)
    rw [reV_set (by decide), reV_set (by decide)] at this
    exact this
  · match j, hj with
    | 0, _ => exact hv'.own 0 (by decide)
    | 1, _ => exact own_low (hu'.own 1 (by decide)) (by omega)
    | 2, _ => exact own_low (hu'.own 2 (by decide)) (by omega)
  · match i, j, hi, hj with
    | 0, 0, _, _ => rfl
    | 1, 1, _, _ => rfl
    | 2, 2, _, _ => rfl
    | 0, 1, _, _ => exact (hsep 1 g (by decide) h1 h2).elim
    | 0, 2, _, _ => exact (hsep 2 g (by decide) h1 h2).elim
    | 1, 0, _, _ => exact (hsep 1 g (by decide) h2 h1).elim
    | 2, 0, _, _ => exact (hsep 2 g (by decide) h2 h1).elim
    | 1, 2, _, _ => exact hu.sep 1 2 g (by decide) (by decide) h1 h2
    | 2, 1, _, _ => exact hu.sep 2 1 g (by decide) (by decide) h1 h2
  · match j, hj with
    | 0, _ => exact .inl ⟨0, by decide, e⟩
    | 1, _ => exact .inr (by have := (hu.lt ⟨1, by decide, e⟩).1; omega)
    | 2, _ => exact .inr (by have := (hu.lt ⟨2, by decide, e⟩).1; omega)
set_option maxHeartbeats 2000000 in
theorem ref_Advance_yes9 {W : List (Int × Nat)} (h : ReIs w lo X v x) (hlo : lo ≤ w.heap.size) (hl : (x.q 0).length ≤ 64) (hnow : x.now ≤ 1000000) (hb : (x.q 0).any (lateR (x.now : Int)) = false) (h1 : x.q 1 = W.map (·.1)) (h2 : x.q 2 = W.map fun p => (p.2 : Int)) (hW : W.length ≤ 1000000) :
    Calls Try.prog 16 #[.pointer (some ⟨X, 0, none⟩)] w (RAdv lo X v (x.now + 1) (x.q 0) W w) := by
  obtain ⟨i0, hi0, hz0, hz1, hz2⟩ := info_at infoInt
  have H := Lib.hid h
  have HB := Lib.hid hb
  have H12 := Lib.hid (And.intro h1 h2)
  clear h hb h1 h2
  go_enter Try.func16, Try.ntmps16
  go_wp2
  go_loopw [4] (fun i wr => ∃ (k n : Nat), k ≤ (x.q 0).length ∧ i = .int .i64 k ∧ wr = w.drewN n ∧ Hid (((x.q 0).take k).any (lateR (x.now : Int)) = false)) (fun i _ => (x.q 0).length - (intOf i).toNat)
  case atStart => exact ⟨0, 0, Nat.zero_le _, rfl, rfl, Lib.hid rfl⟩
  case round =>
    obtain ⟨k, n, hk, rfl, rfl, HN⟩ := hrel
    have c0 : w.cell? ⟨X, 0, none⟩ = some (.int .i64 (x.now : Int)) := H.out.blk.at rfl
    have c1 : w.cell? ⟨X, 1, none⟩ = some (v 0) := H.out.blk.at (reV_at (j := 0) (by decide))
    by_cases hlt : k < (x.q 0).length
    · obtain ⟨g, cap, e2, c2, _⟩ := H.out.pin hlt
      rw [e2] at c1
      have hat := any_take (f := lateR (x.now : Int)) hlt
      rw [HN.out, Bool.false_or] at hat
      have HA := Lib.hid hat
      have HM := Lib.hid (show lateR (x.now : Int) (x.q 0)[k] = true → (x.q 0).any (lateR (x.now : Int)) = true from fun e => List.any_eq_true.2 ⟨_, List.getElem_mem hlt, e⟩)
      generalize (x.q 0)[k] = y at c2 HA HM
      clear hat e2
      by_cases hy : 0 ≤ y
      · have hy1 : decide (0 ≤ y) = true := by simpa using hy
        by_cases hn : y = (x.now : Int)
        · have hn1 : (y != (x.now : Int)) = false := by simpa using hn
          have HL := Lib.hid (show lateR (x.now : Int) y = false by unfold lateR; simp [hn])
          clear hn hy
          go_wp2
          go_quiet (fail)
          go_wp2
          go_roundw
          case rel => exact ⟨k + 1, _, by omega, by go_num, rfl, Lib.hid (HA.out.trans HL.out)⟩
          case measure => simp [intOf]; omega
        · have hn1 : (y != (x.now : Int)) = true := by simpa using hn
          have HL := Lib.hid (show lateR (x.now : Int) y = true by unfold lateR; simp [hn, hy])
          clear hn hy
          have e1 := HM.out HL.out
          rw [HB.out] at e1
          cases e1
      · have hy1 : decide (0 ≤ y) = false := by simpa using hy
        have HL := Lib.hid (show lateR (x.now : Int) y = false by unfold lateR; simp [hy])
        clear hy
        go_wp2
        go_quiet (fail)
        go_wp2
        go_roundw
        case rel => exact ⟨k + 1, _, by omega, by go_num, rfl, Lib.hid (HA.out.trans HL.out)⟩
        case measure => simp [intOf]; omega
    · obtain rfl : k = (x.q 0).length := by omega
      have hnb := HN.out
      rw [List.take_length] at hnb
      clear hnb HN
      obtain ⟨oa, oc, oe⟩ := own_form (H.out.own.own 0 (by decide))
      rw [oe] at c1
      clear oe
      have f0 := H.out.blk.frozen 0
      obtain ⟨wA, eA⟩ : ∃ wA, (w.drewN n).setCell ⟨X, 0, none⟩ (.int .i64 ((x.now : Int) + 1)) = wA := ⟨_, rfl⟩
      have hoA : Only (· = X) w wA := eA ▸ ((Only.refl _ w).drewN n).trans (only_at _ _ _ _)
      have hA : ReIs wA lo X v ⟨x.now + 1, x.q⟩ := by
        refine ⟨?_, H.out.own.only hoA (fun k hk => H.out.apart hk)⟩
        rw [← eA]
        exact (H.out.blk.drewN n).set 0 _
      have A := Lib.hid hA
      have OA := Lib.hid hoA
      have EA := Lib.hid eA
      clear hA hoA eA
      go_wp2_with fail
      rw [EA.out]
      go_loopw [5, 6, 7, 8] (fun o a b i wr => ∃ (k : Nat) (u : Nat → Value), k ≤ W.length ∧ o = u 0 ∧ a = u 1 ∧ b = u 2 ∧ i = .int .i64 k ∧ Hid (Own3 wr wA.heap.size u (advQ (x.now + 1) (W.take k))) ∧ Hid (Below wA.heap.size wA wr)) (fun _ _ _ i _ => W.length - (intOf i).toNat)
      case atStart => exact ⟨0, fun _ => .slice none 0 0, Nat.zero_le _, rfl, rfl, rfl, rfl, Lib.hid (own_nils _ _ _), Lib.hid (Below.refl _ _)⟩
      case round =>
        obtain ⟨k, u, hk, rfl, rfl, rfl, rfl, U, HBw⟩ := hrel
        have hbs := HBw.out.size
        by_cases hlt : k < W.length
        · obtain ⟨g1, s1, g2, s2, hF⟩ := A.out.reads H12.out.1 H12.out.2 hlt
          have HT := Lib.hid (List.take_succ_eq_append_getElem hlt)
          have hq := fun j (hj : j < 3) => Nat.le_trans (advQ_len (x.now + 1) (W.take k) j hj) (List.length_take_le k W)
          have hq0 := hq 0 (by decide)
          have hq1 := hq 1 (by decide)
          have hq2 := hq 2 (by decide)
          have F := Lib.hid hF
          generalize W[k] = p at F HT
          obtain ⟨y, e⟩ := p
          obtain ⟨d0, d2, d3, k1, k2⟩ := F.out _ HBw.out
          have d0 : wr.cell? ⟨X, 0, none⟩ = some (.int .i64 ((x.now : Int) + 1)) := d0
          simp only at k1 k2
          clear hq hF
          have r0 := U.out.own 0 (by decide)
          have r1 := U.out.own 1 (by decide)
          by_cases ho : (e : Int) ≤ (x.now : Int) + 1 - 3
          · have hd : decide ((e : Int) ≤ (x.now : Int) + 1 - 3) = true := by simpa using ho
            have HO := Lib.hid (show oldZ (x.now + 1) (y, e) = true by unfold oldZ; simp; omega)
            clear ho
            go_wp2
            go_quiet (fail)
            replace r0 : (wr.drewN nq).ownsRow _ _ _ _ _ _ := r0
            go_wp2_with (at_builtin; (refine wpList_append_lies _ rfl _ _ 32 rfl wA.heap.size 3 i0 (.int .i64 0) 1 8 Try.underlying32 hi0 hz0 hz1 hz2 rfl (by decide) _ _ _ rfl (r0.alloc _) ⟨wr.heap.size, 0, none⟩ 1 1 [.int .i64 y] rfl rfl (cell_one_new _ _ _) (by simp [Value.oneCell']) (by decide) (by simp only [maxLen]; first | omega | (simp; omega)) (by first | omega | (simp; omega) | simp) (by first | omega | (simp; omega) | simp) (wr.heap.size + 1) (by simp) ?_); intro g8 cap8 w8 hown8 hgrow8 hlie8 hlt8; have T8 := Lib.hid (own3_turn U.out HBw.out (j := 0) (m := nq) (by decide) hgrow8 hlie8 hown8); clear hown8 hgrow8 hlie8 hlt8)
            go_roundw
            case rel =>
              exact ⟨k + 1, upd u 0 (.slice (some ⟨g8, 0, none⟩) ((advQ (x.now + 1) (W.take k) 0).length + 1) cap8), by omega, rfl, rfl, rfl, by go_num, Lib.hid (by rw [HT.out, advQ_old HO.out]; exact T8.out.1), Lib.hid T8.out.2⟩
            case measure => simp [intOf]; omega
          · have hd : decide ((e : Int) ≤ (x.now : Int) + 1 - 3) = false := by simpa using ho
            have HO := Lib.hid (show oldZ (x.now + 1) (y, e) = false by unfold oldZ; simp; omega)
            clear ho
            go_wp2
            go_quiet (fail)
            replace r1 : (wr.drewN nq).ownsRow _ _ _ _ _ _ := r1
            go_wp2_with (first | (at_builtin; (refine wpList_append_lies _ rfl _ _ 32 rfl wA.heap.size 3 i0 (.int .i64 0) 1 8 Try.underlying32 hi0 hz0 hz1 hz2 rfl (by decide) _ _ _ rfl (r1.alloc _) ⟨wr.heap.size, 0, none⟩ 1 1 [.int .i64 y] rfl rfl (cell_one_new _ _ _) (by simp [Value.oneCell']) (by decide) (by simp only [maxLen]; first | omega | (simp; omega)) (by first | omega | (simp; omega) | simp) (by first | omega | (simp; omega) | simp) (wr.heap.size + 1) (by simp) ?_); intro g8 cap8 w8 hown8 hgrow8 hlie8 hlt8; have T8 := Lib.hid (own3_turn U.out HBw.out (j := 1) (m := nq) (by decide) hgrow8 hlie8 hown8); obtain ⟨_, _, f3, _, f5⟩ := F.out _ T8.out.2; have r2 : w8.ownsRow wA.heap.size 3 1 (u 2) (advQ (x.now + 1) (W.take k) 2).length ((advQ (x.now + 1) (W.take k) 2).map numV) := T8.out.1.own 2 (by decide); have hz8 := T8.out.2.size; clear hown8 hgrow8 hlie8 hlt8) | (at_builtin; (refine wpList_append_lies _ rfl _ _ 32 rfl wA.heap.size 3 i0 (.int .i64 0) 1 8 Try.underlying32 hi0 hz0 hz1 hz2 rfl (by decide) _ _ _ rfl (r2.alloc _) ⟨w8.heap.size, 0, none⟩ 1 1 [.int .i64 e] rfl rfl (cell_one_new _ _ _) (by simp [Value.oneCell']) (by decide) (by simp only [maxLen]; first | omega | (simp; omega)) (by first | omega | (simp; omega) | simp) (by first | omega | (simp; omega) | simp) (w8.heap.size + 1) (by simp) ?_); intro g7 cap7 w7 hown7 hgrow7 hlie7 hlt7; have T7 := Lib.hid (own3_turn T8.out.1 T8.out.2 (j := 2) (m := 0) (by decide) hgrow7 hlie7 hown7); clear hown7 hgrow7 hlie7 hlt7))
            go_roundw
            case rel =>
              exact ⟨k + 1, upd (upd u 1 (.slice (some ⟨g8, 0, none⟩) ((advQ (x.now + 1) (W.take k) 1).length + 1) cap8)) 2 (.slice (some ⟨g7, 0, none⟩) ((advQ (x.now + 1) (W.take k) 2).length + 1) cap7), by omega, rfl, rfl, rfl, by go_num, Lib.hid (by rw [HT.out, advQ_new HO.out]; exact T7.out.1), Lib.hid T7.out.2⟩
            case measure => simp [intOf]; omega
        · obtain rfl : k = W.length := by omega
          have A' := Lib.hid (A.out.below HBw.out)
          obtain ⟨ob, oc', oe⟩ := own_form (A.out.own.own 1 (by decide))
          have d2 : wr.cell? ⟨X, 2, none⟩ = some (v 1) := A'.out.blk.at (reV_at (j := 1) (by decide))
          rw [oe, show (RE.mk (x.now + 1) x.q).q 1 = x.q 1 from rfl, H12.out.1, List.length_map] at d2
          have f2 := A'.out.blk.frozen 2
          have f3 := A'.out.blk.frozen 3
          have d3 : wr.cell? ⟨X, 3, none⟩ = some (v 2) := A'.out.blk.at (reV_at (j := 2) (by decide))
          have U2 : Hid (Own3 wr wA.heap.size u (advQ (x.now + 1) W)) := by rw [← List.take_length (l := W)]; exact U
          have L0 := Lib.hid hlo
          obtain ⟨p0, m0, y0⟩ := own_form (U2.out.own 0 (by decide))
          obtain ⟨p1, m1, y1⟩ := own_form (U2.out.own 1 (by decide))
          obtain ⟨p2, m2, y2⟩ := own_form (U2.out.own 2 (by decide))
          rw [y0, y1, y2]
          have Y := Lib.hid (And.intro y0 (And.intro y1 y2))
          clear oe U hlo y0 y1 y2
          go_wp2
          go_ret2
          have R := radv OA.out L0.out A.out HBw.out U2.out
          rw [Y.out.1, Y.out.2.1, Y.out.2.2] at R
          exact R
end

end Go.Proofs.Ytkbappdlijmjlaa
