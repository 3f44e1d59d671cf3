/- Layer 9: the document's answer (bellmanref09) in memory: New, Is, Pin, Unpin, Retire. -/
import Derived.Test.YtkbappdlijmjlaaEpPlain9
namespace Go.Proofs.Ytkbappdlijmjlaa
open Go.RowKit

theorem own3_grown {w w5 : World} {lo : Nat} {v : Nat → Value} {q : Nat → List Int} {ob : Obj} {g' cap' j : Nat} {y : Int} (h : Own3 w lo v q) (hj : j < 3) (hgrow : (w.alloc ob).grownBy w5 (v j).ownBlock) (hlie : (v j).ownBlock = some g' ∨ g' = w.heap.size + 1)
    (hown : w5.ownsRow lo 3 1 (.slice (some ⟨g', 0, none⟩) ((q j).length + 1) cap') ((q j).length + 1) ((q j).map numV ++ [numV y])) :
    Own3 w5 lo (upd v j (.slice (some ⟨g', 0, none⟩) ((q j).length + 1) cap')) (upd q j (q j ++ [y])) ∧ Only (InV v) w w5 ∧ VNew w.heap.size v (upd v j (.slice (some ⟨g', 0, none⟩) ((q j).length + 1) cap')) := by
  have ha : Only (fun _ => False) w (w.alloc ob) := (Only.refl _ _).alloc ob
  have h1 := h.only ha (fun _ _ => id)
  have ho := grown_only hgrow
  have hu : w5.ownsRow lo 3 1 (.slice (some ⟨g', 0, none⟩) ((q j).length + 1) cap') (q j ++ [y]).length ((q j ++ [y]).map numV) := by
    rw [List.length_append, List.map_append]; exact hown
  have hn : ∀ g, (Value.slice (some ⟨g', 0, none⟩) ((q j).length + 1) cap').ownBlock = some g → (v j).ownBlock = some g ∨ (w.alloc ob).heap.size ≤ g := fun g hg => by
    simp only [Value.ownBlock, Option.some.injEq] at hg
    subst hg
    rcases hlie with e | e
    · exact .inl e
    · exact .inr (by simp; omega)
  refine ⟨h1.upd ho hj hu hn, ((Only.refl (InV v) w).alloc ob).step ho (fun i hi e => ⟨j, hj, e⟩), VNew.upd hj (fun g hg => (hn g hg).imp id (fun h => by simp at h; omega))⟩

/-- The document's epochs. -/
structure RE where
  now : Nat
  q : Nat → List Int
def reV (now : Nat) (v : Nat → Value) : List Value := [.int .i64 (now : Int), v 0, v 1, v 2]
theorem reV_at {n j : Nat} {v : Nat → Value} (hj : j < 3) : (reV n v)[1 + j]? = some (v j) := by
  match j, hj with
  | 0, _ => rfl
  | 1, _ => rfl
  | 2, _ => rfl
theorem reV_set {n j : Nat} {v : Nat → Value} (hj : j < 3) (u : Value) : (reV n v).set (1 + j) u = reV n (upd v j u) := by
  match j, hj with
  | 0, _ => rfl
  | 1, _ => rfl
  | 2, _ => rfl
/-- They lie at X, their rows above lo. -/
structure ReIs (w : World) (lo X : Nat) (v : Nat → Value) (x : RE) : Prop where
  blk : Blk 38 w X (reV x.now v)
  own : Own3 w lo v x.q
def ReBlk (X : Nat) (v : Nat → Value) (k : Nat) : Prop := k = X ∨ InV v k
section
variable {w w' : World} {lo X : Nat} {v : Nat → Value} {x : RE}
theorem ReIs.apart (h : ReIs w lo X v x) {k : Nat} (hk : InV v k) : k ≠ X := by
  obtain ⟨j, hj, e⟩ := hk
  exact fun e' => blk_apart h.blk (h.own.own j hj) e (by decide) e'.symm
theorem ReIs.lt (h : ReIs w lo X v x) {k : Nat} (hk : ReBlk X v k) : k < w.heap.size := by
  rcases hk with rfl | hk
  · exact h.blk.lt
  · exact (h.own.lt hk).2
theorem ReIs.only {S : Nat → Prop} (h : ReIs w lo X v x) (ho : Only S w w') (hS : ∀ k, ReBlk X v k → ¬ S k) : ReIs w' lo X v x :=
  ⟨h.blk.only ho (hS X (.inl rfl)), h.own.only ho (fun k hk => hS k (.inr hk))⟩
theorem ReIs.below (h : ReIs w lo X v x) (hb : Below w.heap.size w w') : ReIs w' lo X v x := h.only (Only.of_below hb (fun _ => False)) (fun _ _ h => h)
theorem ReIs.drewN (h : ReIs w lo X v x) (n : Nat) : ReIs (w.drewN n) lo X v x := h.below (below_draws (Below.refl _ _) n)
/-- Behind an append to one of its rows. -/
theorem ReIs.grown {w5 : World} {ob : Obj} {g' cap' j : Nat} {y : Int} (h : ReIs w lo X v x) (hj : j < 3) (hgrow : (w.alloc ob).grownBy w5 (v j).ownBlock) (hlie : (v j).ownBlock = some g' ∨ g' = w.heap.size + 1)
    (hown : w5.ownsRow lo 3 1 (.slice (some ⟨g', 0, none⟩) ((x.q j).length + 1) cap') ((x.q j).length + 1) ((x.q j).map numV ++ [numV y])) :
    (w5.cell? ⟨X, 1 + j, none⟩ = some (v j) ∧ w5.frozen? ⟨X, 1 + j, none⟩ = false) ∧ (∃ v', ReIs (w5.setCell ⟨X, 1 + j, none⟩ (.slice (some ⟨g', 0, none⟩) ((x.q j).length + 1) cap')) lo X v' ⟨x.now, upd x.q j (x.q j ++ [y])⟩ ∧ VNew w.heap.size v v') ∧
    Only (ReBlk X v) w (w5.setCell ⟨X, 1 + j, none⟩ (.slice (some ⟨g', 0, none⟩) ((x.q j).length + 1) cap')) := by
  obtain ⟨o5, oo, hv⟩ := own3_grown h.own hj hgrow hlie hown
  have b5 := h.blk.only oo (fun e => h.apart e rfl)
  have o6 := only_at w5 X (1 + j) (.slice (some ⟨g', 0, none⟩) ((x.q j).length + 1) cap')
  refine ⟨⟨b5.at (reV_at hj), b5.frozen _⟩, ⟨_, ⟨?_, o5.only o6 ?_⟩, hv⟩, ?_⟩
  · have := b5.set (1 + j) (.slice (some ⟨g', 0, none⟩) ((x.q j).length + 1) cap')
    rw [reV_set hj] at this
    exact this
  · rintro k ⟨i, hi, e⟩ rfl
    exact blk_apart b5 (o5.own i hi) e (by decide) rfl
  · exact (oo.mono (fun k _ hk => .inr hk)).step o6 (fun i hi e => .inl e)
end
def q0 : Nat → List Int := fun _ => []
def pinsQ (L : List Int) : Nat → List Int := upd q0 0 L
set_option maxHeartbeats 1000000 in
theorem ref_New9 (k : Int) (w : World) : Calls Try.prog 8 #[.int .i64 k] w fun e w' => e = .returned (.pointer (some ⟨w.heap.size, 0, none⟩)) ∧ (∃ v, ReIs w' w.heap.size w.heap.size v ⟨0, upd (fun _ => []) 0 (List.replicate (thr k) (-1))⟩) ∧ Below w.heap.size w w' := by
  obtain ⟨i0, hi0, hz0, hz1, hz2⟩ := info_at infoInt
  obtain ⟨m, hm⟩ : ∃ m, thr k = m := ⟨_, rfl⟩
  rw [hm]
  have hm64 : m ≤ 64 := by unfold thr at hm; omega
  have hkm : ∀ j : Nat, j < m ↔ (j : Int) < k ∧ (j : Int) < 64 := fun j => by unfold thr at hm; omega
  have h0 : ReIs (w.alloc (.cells #[.int .i64 0, .slice none 0 0, .slice none 0 0, .slice none 0 0] 38)) w.heap.size w.heap.size (fun _ => .slice none 0 0) ⟨0, upd (fun _ => []) 0 (List.replicate 0 (-1))⟩ := by
    refine ⟨Blk.new (l := reV 0 (fun _ => .slice none 0 0)), fun j hj => ?_, (Own3.nil w 0).sep⟩
    have : (upd (fun _ => []) 0 (List.replicate 0 (-1)) j : List Int) = [] := by unfold upd; split <;> rfl
    show World.ownsRow _ _ _ _ _ (upd (fun _ => []) 0 (List.replicate 0 (-1)) j : List Int).length ((upd (fun _ => []) 0 (List.replicate 0 (-1)) j : List Int).map numV)
    rw [this]
    exact World.ownsRow_nil _ _ _ _
  have H0 := Lib.hid h0
  clear h0
  go_enter Try.func8, Try.ntmps8
  go_wp2
  go_loopw [4] (fun i wr => ∃ (j : Nat) (v : Nat → Value), j ≤ m ∧ i = .int .i64 j ∧ Hid (ReIs wr w.heap.size w.heap.size v ⟨0, upd (fun _ => []) 0 (List.replicate j (-1))⟩) ∧ Hid (Below w.heap.size w wr)) (fun i _ => m - (intOf i).toNat)
  case atStart => exact ⟨0, _, Nat.zero_le _, rfl, H0, Lib.hid ((Below.refl _ _).alloc (Nat.le_refl _) _)⟩
  case round =>
    obtain ⟨j, v, hj, rfl, h, hB⟩ := hrel
    have hbs := hB.out.size
    have hkj := hkm j
    by_cases hlt : j < m
    · obtain ⟨hk1, hk2⟩ := hkj.1 hlt
      have hs := List.replicate_succ' (n := j) (a := (-1 : Int))
      have hl : (List.replicate j (-1 : Int)).length ≤ 64 := by simp; omega
      generalize List.replicate j (-1 : Int) = L at h hs hl
      have r1 : wr.ownsRow w.heap.size 3 1 (v 0) L.length (L.map numV) := h.out.own.own 0 (by decide)
      have c1 : wr.cell? ⟨w.heap.size, 1, none⟩ = some (v 0) := h.out.blk.at (reV_at (j := 0) (by decide))
      obtain ⟨oa, oc, oe⟩ := own_form r1
      rw [oe] at c1 r1
      have HV := Lib.hid oe
      have HS := Lib.hid hs
      clear oe hkj hs
      go_wp2_with (at_builtin; (refine wpList_append_lies _ rfl _ _ 32 rfl w.heap.size 3 i0 (.int .i64 0) 1 8 Try.underlying32 hi0 hz0 hz1 hz2 rfl (by decide) _ _ _ rfl (r1.alloc _) ⟨wr.heap.size, 0, none⟩ 1 1 [.int .i64 (-1)] rfl rfl (cell_one_new _ _ _) (by simp [Value.oneCell']) (by decide) (by simp only [maxLen]; first | omega | (simp; omega)) (by first | omega | (simp; omega) | simp) (by first | omega | (simp; omega) | simp) (wr.heap.size + 1) (by simp) ?_); intro g' cap' w9 hown' hgrow hlie hlt'; rw [← HV.out] at hgrow hlie; obtain ⟨⟨c9, f9⟩, hend⟩ := h.out.grown (j := 0) (by decide) hgrow hlie hown'; rw [HV.out] at c9; have HE := Lib.hid hend; clear hown' hgrow hlie hlt' hend)
      go_roundw
      case rel =>
        obtain ⟨⟨v', hv', hn⟩, ho⟩ := HE.out
        refine ⟨j + 1, v', by omega, by go_num, ?_, ?_⟩
        · rw [HS.out]
          have : upd (upd (fun _ => []) 0 L) 0 (upd (fun _ => []) 0 L 0 ++ [(-1 : Int)]) = upd (fun _ => []) 0 (L ++ [-1]) := by
            funext i; unfold upd; split <;> rfl
          rw [← this]
          exact hv'
        · refine Lib.hid (Only.below_step hbs hB.out ho (fun i hi e => ?_))
          rcases e with e | e
          · omega
          · have := (h.out.own.lt e).1; omega
      case measure => simp [intOf]; omega
    · obtain rfl : j = m := by omega
      have hnk : ¬ ((j : Int) < k ∧ (j : Int) < 64) := fun e => hlt (hkj.2 e)
      have HR := Lib.hid h
      clear hkj hkm h
      by_cases hk1 : (j : Int) < k
      · have hk2 : ¬ (j : Int) < 64 := fun e => hnk ⟨hk1, e⟩
        go_wp2
        go_ret
        exact ⟨rfl, ⟨v, HR.out.out⟩, hB.out⟩
      · go_wp2
        go_ret
        exact ⟨rfl, ⟨v, HR.out.out⟩, hB.out⟩

section
variable {w w' : World} {lo X : Nat} {v : Nat → Value} {x : RE}
/-- One of the pins. -/
theorem ReIs.pin (h : ReIs w lo X v x) {i : Nat} (hi : i < (x.q 0).length) : ∃ g cap, v 0 = .slice (some ⟨g, 0, none⟩) (x.q 0).length cap ∧ w.cell? ⟨g, i, none⟩ = some (numV (x.q 0)[i]) ∧ w.frozen? ⟨g, i, none⟩ = false ∧
    ∀ u : Int, ReIs (w.setCell ⟨g, i, none⟩ (numV u)) lo X v ⟨x.now, upd x.q 0 ((x.q 0).set i u)⟩ ∧ Only (ReBlk X v) w (w.setCell ⟨g, i, none⟩ (numV u)) := by
  have h0 := h.own.own 0 (by decide)
  have hg : ∃ g, (v 0).ownBlock = some g := by
    rcases h0.2 with ⟨_, e⟩ | ⟨g, cap, cur, e, _⟩
    · omega
    · exact ⟨g, by rw [e]; rfl⟩
  obtain ⟨g, hg⟩ := hg
  obtain ⟨l, cap, e, _, hb, ht, hle⟩ := own_heap h0 hg
  refine ⟨g, cap, e, ?_, hb.frozen i, fun u => ?_⟩
  · refine hb.at ?_
    have h1 : ((x.q 0).map numV)[i]? = some (numV (x.q 0)[i]) := by rw [List.getElem?_map, List.getElem?_eq_getElem hi]; rfl
    rw [← ht, List.getElem?_take] at h1
    split at h1
    · exact h1
    · cases h1
  · have hin : InV v g := ⟨0, by decide, hg⟩
    have ho : Only (· = g) w (w.setCell ⟨g, i, none⟩ (numV u)) := only_at _ _ _ _
    refine ⟨⟨h.blk.only ho (fun e => h.apart hin e.symm), ?_⟩, ho.mono (fun k _ e => .inr (e ▸ hin))⟩
    have h2 := own_set (k := i) h0 hg (numV u)
    have e0 : upd v 0 (v 0) = v := by funext k; unfold upd; split <;> simp_all
    have := h.own.upd (j := 0) (u := v 0) (l := (x.q 0).set i u) (ho.mono (fun k _ e => e ▸ hg)) (by decide) (by rw [List.length_set, List.map_set]; exact h2) (fun g' hg' => .inl hg')
    rwa [e0] at this
end
/-- Is a thread pinned, by the document? -/
def refIs (L : List Int) (t : Int) : Bool := decide (0 ≤ t) && decide (t < (L.length : Int)) && decide (0 ≤ L.getD t.toNat 0)
theorem pinZ_nn (p : Option Nat) : decide (0 ≤ pinZ p) = p.isSome := by cases p <;> simp [pinZ]; try omega
theorem refIs_eq (x : Ep) (t : Int) : refIs (x.pins.map pinZ) t = isPin x t := by
  unfold refIs isPin hasT
  rw [List.length_map]
  by_cases h : 0 ≤ t ∧ t < (x.pins.length : Int)
  · have hi : t.toNat < x.pins.length := by omega
    simp only [h.1, h.2, decide_true, Bool.true_and, List.getD_eq_getElem?_getD, List.getElem?_map, List.getElem?_eq_getElem hi, Option.map_some, Option.getD_some]
    exact pinZ_nn _
  · by_cases h0 : 0 ≤ t
    · have h1 : ¬ t < (x.pins.length : Int) := fun e => h ⟨h0, e⟩
      simp [h1]
    · simp [h0]
section
variable {w : World} {lo X : Nat} {v : Nat → Value} {x : RE}
theorem ref_Is9 (h : ReIs w lo X v x) (t : Int) : Calls Try.prog 21 #[.pointer (some ⟨X, 0, none⟩), .int .i64 t] w fun e w' => e = .returned (.bool (refIs (x.q 0) t)) ∧ w = w' := by
  have c1 : w.cell? ⟨X, 1, none⟩ = some (v 0) := h.blk.at (reV_at (j := 0) (by decide))
  obtain ⟨a, c, e⟩ := own_form (h.own.own 0 (by decide))
  by_cases h0 : 0 ≤ t
  · by_cases h1 : t < ((x.q 0).length : Int)
    · obtain ⟨i, rfl⟩ : ∃ i : Nat, t = (i : Int) := ⟨t.toNat, by omega⟩
      have hi : i < (x.q 0).length := by omega
      obtain ⟨g, cap, e2, c2, _, _⟩ := h.pin hi
      have hr : refIs (x.q 0) (i : Int) = decide (0 ≤ (x.q 0)[i]) := by
        unfold refIs; simp [List.getD_eq_getElem?_getD, hi]
      rw [hr]
      rw [e2] at c1
      generalize (x.q 0)[i] = y at *
      generalize (x.q 0).length = n at *
      have hd : decide ((i : Int) < (n : Int)) = true := by simpa using h1
      clear h e e2 hr
      go_enter Try.func21, Try.ntmps21
      go_wp2
      go_ret
      simp
    · have hr : refIs (x.q 0) t = false := by unfold refIs; simp [h1]
      rw [hr]
      rw [e] at c1
      generalize (x.q 0).length = n at *
      clear h e hr
      go_enter Try.func21, Try.ntmps21
      go_wp2
      go_ret
      simp
  · have hr : refIs (x.q 0) t = false := by unfold refIs; simp [h0]
    rw [hr]
    clear h e hr
    go_enter Try.func21, Try.ntmps21
    go_wp2
    go_ret
    simp
def hasR (L : List Int) (t : Int) : Bool := decide (0 ≤ t) && decide (t < (L.length : Int))
theorem ref_Unpin9 (h : ReIs w lo X v x) (t : Int) : Calls Try.prog 12 #[.pointer (some ⟨X, 0, none⟩), .int .i64 t] w fun e w' => e = .returned (.bool (refIs (x.q 0) t)) ∧
    ReIs w' lo X v ⟨x.now, if refIs (x.q 0) t = true then upd x.q 0 ((x.q 0).set t.toNat (-1)) else x.q⟩ ∧ Only (ReBlk X v) w w' := by
  have H := Lib.hid (ref_Is9 h t)
  cases hr : refIs (x.q 0) t with
  | false =>
    rw [hr] at H
    have K := Lib.hid h
    clear h
    go_enter Try.func12, Try.ntmps12
    go_wp2_with fail
    refine H.out.mono ?_
    rintro e w' ⟨rfl, rfl⟩
    go_wp2
    go_ret
    exact ⟨rfl, K.out, Only.refl _ _⟩
  | true =>
    rw [hr] at H
    obtain ⟨i, rfl, hi⟩ : ∃ i : Nat, t = (i : Int) ∧ i < (x.q 0).length := ⟨t.toNat, by simp [refIs] at hr; omega, by simp [refIs] at hr; omega⟩
    obtain ⟨g, cap, e2, c2, f2, hst⟩ := h.pin hi
    have c1 : w.cell? ⟨X, 1, none⟩ = some (v 0) := h.blk.at (reV_at (j := 0) (by decide))
    rw [e2] at c1
    have K := Lib.hid (hst (-1))
    generalize (x.q 0)[i] = y at *
    generalize hn : (x.q 0).length = n at *
    clear h e2 hr hst hn
    go_enter Try.func12, Try.ntmps12
    go_wp2_with fail
    refine H.out.mono ?_
    rintro e w' ⟨rfl, rfl⟩
    go_wp2
    go_ret
    exact ⟨rfl, K.out.1, K.out.2⟩
theorem ref_Pin9 (h : ReIs w lo X v x) (t : Int) : Calls Try.prog 10 #[.pointer (some ⟨X, 0, none⟩), .int .i64 t] w fun e w' => e = .returned (.bool (hasR (x.q 0) t && !refIs (x.q 0) t)) ∧
    ReIs w' lo X v ⟨x.now, if (hasR (x.q 0) t && !refIs (x.q 0) t) = true then upd x.q 0 ((x.q 0).set t.toNat (x.now : Int)) else x.q⟩ ∧ Only (ReBlk X v) w w' := by
  have H := Lib.hid (ref_Is9 h t)
  have c0 : w.cell? ⟨X, 0, none⟩ = some (.int .i64 (x.now : Int)) := h.blk.at rfl
  have c1 : w.cell? ⟨X, 1, none⟩ = some (v 0) := h.blk.at (reV_at (j := 0) (by decide))
  obtain ⟨a, c, e⟩ := own_form (h.own.own 0 (by decide))
  rw [e] at c1
  have K0 := Lib.hid h
  by_cases h0 : 0 ≤ t
  · by_cases h1 : t < ((x.q 0).length : Int)
    · have hh : hasR (x.q 0) t = true := by unfold hasR; simp [h0, h1]
      rw [hh]
      obtain ⟨i, rfl⟩ : ∃ i : Nat, t = (i : Int) := ⟨t.toNat, by omega⟩
      have hi : i < (x.q 0).length := by omega
      obtain ⟨g, cap, e2, c2, f2, hst⟩ := h.pin hi
      have K := Lib.hid (hst (x.now : Int))
      have e3 := e.symm.trans e2
      simp only [Value.slice.injEq, true_and] at e3
      obtain ⟨rfl, rfl⟩ := e3
      cases hr : refIs (x.q 0) (i : Int) with
      | true =>
        rw [hr] at H
        generalize (x.q 0)[i] = y at *
        generalize hn : (x.q 0).length = n at *
        clear h e2 e hr hst hn hh
        go_enter Try.func10, Try.ntmps10
        go_wp2_with fail
        refine H.out.mono ?_
        rintro e w' ⟨rfl, rfl⟩
        go_wp2
        go_ret
        exact ⟨rfl, K0.out, Only.refl _ _⟩
      | false =>
        rw [hr] at H
        generalize (x.q 0)[i] = y at *
        generalize hn : (x.q 0).length = n at *
        clear h e2 e hr hst hn hh
        go_enter Try.func10, Try.ntmps10
        go_wp2_with fail
        refine H.out.mono ?_
        rintro e w' ⟨rfl, rfl⟩
        go_wp2
        go_region
        go_wp2
        go_ret
        exact ⟨rfl, K.out.1.drewN 1, K.out.2.drewN 1⟩
    · have hh : hasR (x.q 0) t = false := by unfold hasR; simp [h1]
      rw [hh]
      generalize hn : (x.q 0).length = n at *
      clear h e hh hn
      go_enter Try.func10, Try.ntmps10
      go_wp2
      go_ret
      exact ⟨rfl, K0.out, Only.refl _ _⟩
  · have hh : hasR (x.q 0) t = false := by unfold hasR; simp [h0]
    rw [hh]
    generalize hn : (x.q 0).length = n at *
    clear h e hh hn
    go_enter Try.func10, Try.ntmps10
    go_wp2
    go_ret
    exact ⟨rfl, K0.out, Only.refl _ _⟩
end

end Go.Proofs.Ytkbappdlijmjlaa
