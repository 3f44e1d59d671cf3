/- Layer 14, the document's answer: is a pair ahead of another one? Made by tools/gen_ahead14.py. -/
import Derived.Test.YtabgedmocdjkcaaJoin7
import Derived.Test.YtabgedmocdjkcaaRef1
import Derived.Test.YtabgedmocdjkcaaWalkM14
import Derived.Deep.RegionHeld3
namespace Go.Proofs.Ytabgedmocdjkcaa
open Go.RowKit Go.Shelf

theorem drews14 (w : World) (n m : Nat) : (w.drewN n).drewN m = w.drewN (n + m) := by
  simp [World.drewN, Nat.add_assoc]
theorem drop_at {l : List Key} {k : Nat} {x : Key} (h : l[k]? = some x) : l.drop k = x :: l.drop (k + 1) := by
  obtain ⟨h1, h2⟩ := List.getElem?_eq_some_iff.1 h
  rw [List.drop_eq_getElem_cons h1, h2]
theorem lv_le : ∀ (f : Key), ∀ k ∈ lv f, k.length ≤ f.length
  | [], k, h => by
    have : lv ([] : Key) = [[]] := rfl
    rw [this, List.mem_singleton] at h
    rw [h]; simp
  | b :: f, k, h => by
    by_cases e : b = 47
    · subst e
      rw [lv_sep, List.mem_cons] at h
      rcases h with rfl | h
      · simp
      · have := lv_le f k h
        simp only [List.length_cons]; omega
    · cases e2 : lv f with
      | nil => exact absurd e2 (lv_ne f)
      | cons x r =>
        have ih := lv_le f
        rw [e2] at ih
        rw [lv_cons e e2, List.mem_cons] at h
        rcases h with rfl | h
        · have := ih x (by simp)
          simp only [List.length_cons]; omega
        · have := ih k (by simp [h])
          simp only [List.length_cons]; omega
theorem llt_end {f g : List Key} {k : Nat} (h : ¬ (k < f.length ∧ k < g.length)) (hf : k ≤ f.length) (hg : k ≤ g.length) : llt (f.drop k) (g.drop k) = decide (f.length < g.length) := by
  by_cases h1 : k < f.length
  · obtain rfl : k = g.length := by omega
    rw [List.drop_length]
    have : ¬ f.length < g.length := by omega
    rw [decide_eq_false this]
    cases f.drop g.length <;> rfl
  · obtain rfl : k = f.length := by omega
    rw [List.drop_length]
    by_cases h2 : f.length < g.length
    · rw [decide_eq_true h2]
      cases e : g.drop f.length with
      | nil => have := List.drop_eq_nil_iff.1 e; omega
      | cons _ _ => rfl
    · obtain e : g.drop f.length = [] := List.drop_eq_nil_iff.2 (by omega)
      rw [decide_eq_false h2, e]; rfl
set_option maxRecDepth 100000 in
set_option maxHeartbeats 4000000 in
theorem ref_Ahead (a b : Key) (x y : Int) (w : World) (ha : a.length ≤ 1000) (hb : b.length ≤ 1000) :
    Calls Try.prog 18 #[.string ⟨a.toArray⟩, .int .i64 x, .string ⟨b.toArray⟩, .int .i64 y] w fun e w' => e = .returned (.bool (ahZ (a, x) (b, y))) ∧ Below w.heap.size w w' := by
  by_cases hab : a = b
  · subst hab
    have HE : Hid (ahZ (a, x) (a, y) = decide (x < y)) := Lib.hid (by simp [ahZ])
    go_enter Try.func18, Try.ntmps18
    go_wp2
    go_ret
    exact ⟨by rw [HE.out]; rfl, Below.refl _ _⟩
  · have HE : Hid (ahZ (a, x) (b, y) = llt (lv a) (lv b)) := Lib.hid (by simp [ahZ, hab])
    have hne : (a == b) = false := by simpa using hab
    have hla := lv_length a
    have hca : a.count 47 ≤ a.length := List.count_le_length
    have hlb := lv_length b
    have hcb : b.count 47 ≤ b.length := List.count_le_length
    have HL1 := Lib.hid (fun w => ref_Levels ⟨a.toArray⟩ w (by show a.toArray.size ≤ _; simp; omega))
    have HL2 := Lib.hid (fun w => ref_Levels ⟨b.toArray⟩ w (by show b.toArray.size ≤ _; simp; omega))
    have HLL : Hid (∀ k ∈ lv a, k.length ≤ 1000000) := Lib.hid fun k hk => by
      have := lv_le a k hk
      omega
    dsimp only at HL1 HL2
    go_enter Try.func18, Try.ntmps18
    go_wp2_with fail
    refine (HL1.out _).mono ?_
    rintro e w1 ⟨v1, rfl, hr1, hB1⟩
    have HR1 := Lib.hid hr1
    have HB1 := Lib.hid hB1
    clear hr1 hB1
    go_wp2_with fail
    refine (HL2.out _).mono ?_
    rintro e w2 ⟨v2, rfl, hr2, hB2⟩
    obtain ⟨g1, p1, rfl, hg1, hg1', hc1⟩ := RowOf.of_own HR1.out (lv_ne _)
    obtain ⟨g2, p2, rfl, hg2, hg2', hc2⟩ := RowOf.of_own hr2 (lv_ne _)
    have hc1b : ∀ (i : Nat) (x : Key), (lv a)[i]? = some x → w2.cell? ⟨g1, i, none⟩ = some (.string ⟨x.toArray⟩) := fun i x hx => (hB2.cell (p := ⟨g1, i, none⟩) hg1').trans (hc1 i x hx)
    have HC1 := Lib.hid hc1b
    have HC2 : Hid (∀ (i : Nat) (x : Key), (lv b)[i]? = some x → w2.cell? ⟨g2, i, none⟩ = some (.string ⟨x.toArray⟩)) := Lib.hid hc2
    have HB := Lib.hid (below_step HB1.out hB2)
    have hlF : (lv a).length ≤ 1001 := by omega
    have hlG : (lv b).length ≤ 1001 := by omega
    dsimp only
    generalize lv a = F at *
    generalize lv b = G at *
    have hg1w : g1 < w2.heap.size := Nat.lt_of_lt_of_le hg1' hB2.size
    clear hc1 hc1b hc2 hr2 hB2 HR1 HB1 HL1 HL2 hla hlb hca hcb
    go_wp2_with fail
    go_loopw [11] (fun i wr => ∃ k n : Nat, k ≤ F.length ∧ k ≤ G.length ∧ i = .int .i64 (k : Int) ∧ wr = w2.drewN n ∧ Hid (llt F G = llt (F.drop k) (G.drop k))) (fun i _ => F.length - (intOf i).toNat)
    case atStart => exact ⟨0, 0, Nat.zero_le _, Nat.zero_le _, rfl, rfl, rfl⟩
    case round =>
      obtain ⟨k, n, hk1, hk2, rfl, rfl, H⟩ := hrel
      by_cases hkl : k < F.length ∧ k < G.length
      · obtain ⟨h1, h2⟩ := hkl
        obtain ⟨p, hp⟩ : ∃ p, F[k]? = some p := ⟨_, List.getElem?_eq_getElem h1⟩
        obtain ⟨q, hq⟩ : ∃ q, G[k]? = some q := ⟨_, List.getElem?_eq_getElem h2⟩
        have d1 := HC1.out k p hp
        have d2 := HC2.out k q hq
        have hpl := HLL.out p (List.mem_of_getElem? hp)
        have HS := Lib.hid (H.out.trans (by rw [drop_at hp, drop_at hq]))
        clear hp hq
        by_cases hpq : p = q
        · subst hpq
          have HS2 : Hid (llt F G = llt (F.drop (k + 1)) (G.drop (k + 1))) := Lib.hid (HS.out.trans (by simp [llt]))
          clear HS
          go_wp2_with fail
          go_quiet (fail)
          go_wp2_with fail
          go_roundw
          case rel => exact ⟨k + 1, _, by omega, by omega, by go_num, rfl, HS2⟩
          case measure => simp [intOf]; omega
        · have HS2 : Hid (llt F G = bl p q) := Lib.hid (HS.out.trans (by simp [llt, hpq]))
          have hnq : (p == q) = false := by simpa using hpq
          have HLS := Lib.hid (fun w => ref_Less p q w hpl)
          clear HS
          go_wp2_with fail
          go_quiet (fail)
          go_wp2_with fail
          have SK : Hid (∀ w', Below w2.heap.size w2 w' → w'.cell? ⟨g1, k, none⟩ = some (.string ⟨p.toArray⟩) ∧ w'.cell? ⟨g2, k, none⟩ = some (.string ⟨q.toArray⟩)) := Lib.hid fun w' h => ⟨(h.cell (p := ⟨g1, k, none⟩) hg1w).trans d1, (h.cell (p := ⟨g2, k, none⟩) hg2').trans d2⟩
          have hC : Below w2.heap.size w2 ((w2.drewN n).drewN nq).drew := (below_draws (below_draws (Below.refl _ _) _) _).drew
          have hk1' : (k : Int) < F.length := by omega
          have hk2' : (k : Int) < G.length := by omega
          clear d1 d2
          try rw [show w2.drewN (n + nq) = (w2.drewN n).drewN nq from (drews14 _ _ _).symm]
          generalize (w2.drewN n).drewN nq = wq at hC ⊢
          refine wp_region_noPanic ?_
          refine wp_region_held_drew (S := (fun w' => w'.cell? ⟨g1, k, none⟩ = some (.string ⟨p.toArray⟩) ∧ w'.cell? ⟨g2, k, none⟩ = some (.string ⟨q.toArray⟩))) (by kernel_rfl) ?_ (fun hHeld => ?_)
          · exact SK.out _ hC
          refine wpAnyH_take (i := 0) (oi := ⟨some 43, _, _, _, _, _⟩) (v := ?_) rfl (by kernel_rfl) (by kernel_rfl) (by kernel_rfl) (fun _ _ _ h => h) (Or.inl ⟨by rfl, ?_⟩) (by assumption) ?_
          rotate_left
          · (intro w hSw; (try dsimp only at hSw); go_simp; try with_reducible rfl)
          try simp only [Act.put, List.setIfInBounds_toArray, List.set_cons_zero, List.set_cons_succ]
          refine wpAnyH_take (i := 1) (oi := ⟨some 44, _, _, _, _, _⟩) (v := ?_) rfl (by kernel_rfl) (by kernel_rfl) (by kernel_rfl) (fun _ _ _ h => h) (Or.inl ⟨by rfl, ?_⟩) (by assumption) ?_
          rotate_left
          · (intro w hSw; (try dsimp only at hSw); go_simp; try with_reducible rfl)
          try simp only [Act.put, List.setIfInBounds_toArray, List.set_cons_zero, List.set_cons_succ]
          refine wpAnyH_take (i := 2) (oi := ⟨some 45, _, _, _, _, _⟩) (v := ?_) rfl (by kernel_rfl) (by kernel_rfl) (by kernel_rfl) (fun _ _ _ h => h) (Or.inl ⟨by rfl, ?_⟩) (by assumption) ?_
          rotate_left
          · (intro w hSw; (try dsimp only at hSw); go_simp; try with_reducible rfl)
          try simp only [Act.put, List.setIfInBounds_toArray, List.set_cons_zero, List.set_cons_succ]
          refine wpAnyH_take (i := 3) (oi := ⟨some 46, _, _, _, _, _⟩) (v := ?_) rfl (by kernel_rfl) (by kernel_rfl) (by kernel_rfl) (fun _ _ _ h => h) (Or.inl ⟨by rfl, ?_⟩) (by assumption) ?_
          rotate_left
          · (intro w hSw; (try dsimp only at hSw); go_simp; try with_reducible rfl)
          try simp only [Act.put, List.setIfInBounds_toArray, List.set_cons_zero, List.set_cons_succ]
          refine wpAnyH_take (i := 4) (oi := ⟨some 47, _, _, _, _, _⟩) (v := ?_) rfl (by kernel_rfl) (by kernel_rfl) (by kernel_rfl) (fun _ _ _ h => h) (Or.inl ⟨by rfl, ?_⟩) (by assumption) ?_
          rotate_left
          · (intro w hSw; (try dsimp only at hSw); go_simp; try with_reducible rfl)
          try simp only [Act.put, List.setIfInBounds_toArray, List.set_cons_zero, List.set_cons_succ]
          refine wpAnyH_take (i := 5) (oi := ⟨some 48, _, _, _, _, _⟩) (v := ?_) rfl (by kernel_rfl) (by kernel_rfl) (by kernel_rfl) (fun _ _ _ h => h) (Or.inl ⟨by rfl, ?_⟩) (by assumption) ?_
          rotate_left
          · (intro w hSw; (try dsimp only at hSw); go_simp; try with_reducible rfl)
          try simp only [Act.put, List.setIfInBounds_toArray, List.set_cons_zero, List.set_cons_succ]
          refine wpAnyH_take (i := 6) (oi := ⟨some 49, _, _, _, _, _⟩) (v := ?_) rfl (by kernel_rfl) (by kernel_rfl) (by kernel_rfl) (fun _ _ _ h => h) (Or.inl ⟨by rfl, ?_⟩) (by assumption) ?_
          rotate_left
          · (intro w hSw; (try dsimp only at hSw); go_simp; try with_reducible rfl)
          try simp only [Act.put, List.setIfInBounds_toArray, List.set_cons_zero, List.set_cons_succ]
          refine wpAnyH_take (i := 7) (oi := ⟨some 50, _, _, _, _, _⟩) (v := ?_) rfl (by kernel_rfl) (by kernel_rfl) (by kernel_rfl) (fun _ _ _ h => h) (Or.inl ⟨by rfl, ?_⟩) (by assumption) ?_
          rotate_left
          · (intro w hSw; (try dsimp only at hSw); go_simp; try with_reducible rfl)
          try simp only [Act.put, List.setIfInBounds_toArray, List.set_cons_zero, List.set_cons_succ]
          refine wpAnyH_ready (rs := [8]) (by kernel_rfl) (by simp) ?_
          refine AllReadyH.cons (o := ⟨some 51, _, _, _, _, _⟩) rfl (fun K hK => ?_) AllReadyH.nil
          go_simp
          refine (HLS.out _).mono ?_
          rintro e w9 ⟨rfl, hB9⟩
          replace hC := below_step hC hB9
          go_wp2_with fail
          refine hK.out _ _ ?_ (fun hHeldX => ?_)
          · exact SK.out _ hC
          clear hK K hHeld
          rename _ => hHeld
          try simp only [Act.put, List.setIfInBounds_toArray, List.set_cons_zero, List.set_cons_succ]
          refine wpAnyH_take (i := 9) (oi := ⟨some 8, _, _, _, _, _⟩) (v := ?_) rfl (by kernel_rfl) (by kernel_rfl) (by kernel_rfl) (fun _ _ _ h => h) (Or.inl ⟨by rfl, ?_⟩) (by assumption) ?_
          rotate_left
          · (intro w hSw; (try dsimp only at hSw); go_simp; try with_reducible rfl)
          try simp only [Act.put, List.setIfInBounds_toArray, List.set_cons_zero, List.set_cons_succ]
          refine wpAnyH_done (by kernel_rfl) ?_ _
          refine NoPanic.normal ?_
          have HBn := Lib.hid (below_step HB.out hC)
          go_wp2_with fail
          go_ret
          exact ⟨by rw [HE.out, HS2.out]; rfl, HBn.out⟩
      · have HS2 := Lib.hid (H.out.trans (llt_end hkl hk1 hk2))
        have HBn := Lib.hid (below_draws HB.out n)
        by_cases h1 : k < F.length
        · have h2 : ¬ k < G.length := by omega
          clear hkl
          go_wp2_with fail
          go_ret
          exact ⟨by rw [HE.out, HS2.out]; simp, HBn.out⟩
        · clear hkl
          go_wp2_with fail
          go_ret
          exact ⟨by rw [HE.out, HS2.out]; simp, HBn.out⟩
end Go.Proofs.Ytabgedmocdjkcaa
