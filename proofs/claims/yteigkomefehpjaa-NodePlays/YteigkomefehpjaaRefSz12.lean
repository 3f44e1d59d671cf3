/- Layer 12: the document's list of nodes (bellmanref12): Size. -/
import Derived.Test.YteigkomefehpjaaRefNd12
import Derived.ArgAppend
import Derived.Deep.Upon
import Derived.Deep.LoopGhost
namespace Go.Proofs.Yteigkomefehpjaa
open Go.RowKit

/-- What waits, in a block of its own, and more. -/
theorem app_wait (W : World) (ty : TypeId) (b n : Nat) (M R : List Int) (u : Value) (hM : M.length = n) (hb : b < W.heap.size) (hc : CellsAt W b 0 (M.map numV)) (hR : NumsIn W u R) (hbig : M.length + R.length ≤ 1000000) :
    ∃ g cap w', (Builtin.append_ #[43, 43] ty #[.slice (some ⟨b, 0, none⟩) n n, u]).run Try.prog W = .ok (.slice (some ⟨g, 0, none⟩) (M ++ R).length cap) w' ∧ (M ++ R).length ≤ cap ∧ g < w'.heap.size ∧ CellsAt w' g 0 ((M ++ R).map numV) ∧ Below W.heap.size W w' := by
  subst hM
  obtain ⟨i0, hi, hz0, hz1, hz2⟩ := info_parts infoInt
  rcases hR.2 with ⟨rfl, h0⟩ | ⟨b', off', cap', rfl, _, _, hc'⟩
  · obtain rfl : R = [] := List.eq_nil_of_length_eq_zero h0
    rw [List.append_nil]
    refine ⟨b, M.length, W, ?_, Nat.le_refl _, hb, hc, Below.refl _ _⟩
    have hs : Src Try.prog i0.size 43 (.slice none 0 0) 0 [] W := Src.ofNil W Try.underlying43 0
    exact run_append_nothing (P := Try.prog) W 43 43 ty 3 i0 Try.underlying43 hi (some ⟨b, 0, none⟩) M.length M.length (Nat.le_refl _) (.slice none 0 0) hs
  · by_cases hR0 : R.length = 0
    · obtain rfl : R = [] := List.eq_nil_of_length_eq_zero hR0
      rw [List.append_nil]
      refine ⟨b, M.length, W, ?_, Nat.le_refl _, hb, hc, Below.refl _ _⟩
      have hs : Src Try.prog i0.size 43 (.slice (some ⟨b', off', none⟩) ([] : List Int).length cap') 0 [] W := Src.ofSlice W Try.underlying43 ⟨b', off', none⟩ 0 cap' [] (by simp) (fun j u hj => by simp at hj) (fun u hu => by simp at hu)
      exact run_append_nothing (P := Try.prog) W 43 43 ty 3 i0 Try.underlying43 hi (some ⟨b, 0, none⟩) M.length M.length (Nat.le_refl _) _ hs
    · obtain ⟨v', w', h1, h2, h3⟩ := run_append_arg_grows (P := Try.prog) W 43 ty 3 i0 (.int .i64 0) 1 8 Try.underlying43 hi hz0 hz1 hz2 rfl (by decide) ⟨b, 0, none⟩ M.length M.length (M.map numV) (by simp) hc.get ⟨b', off', none⟩ R.length cap' (R.map numV) (by simp) hc'.get (by omega) (by simp only [maxLen]; omega) (by omega)
      have h4 : Below W.heap.size W w' := (Below.refl _ _).grown h3 (Nat.le_refl _) (fun k e => by cases e)
      have h2 : w'.ownsRow W.heap.size 3 1 v' (M ++ R).length ((M ++ R).map numV) := by rw [List.length_append, List.map_append]; exact h2
      have h5 := SliceK.of_own h2
      rcases h2.2 with ⟨rfl, h6⟩ | ⟨g, cap, cur, rfl, _⟩
      · rw [List.length_append] at h6; omega
      · rcases h5.2 with ⟨h6, _⟩ | ⟨g', off2, cap2, h6, h7, h8, h9⟩
        · cases h6
        · cases h6
          exact ⟨g, cap, w', h1, h7, h8, h9, h4⟩

/-- The sum of what these are. -/
def sumA (zf : Int → Nat) (M : List Int) : Nat := (M.map zf).sum
theorem sumA_append (zf : Int → Nat) (M R : List Int) : sumA zf (M ++ R) = sumA zf M + sumA zf R := by simp [sumA]
theorem sumA_len (zf : Int → Nat) : ∀ M : List Int, (∀ x ∈ M, 1 ≤ zf x) → M.length ≤ sumA zf M
  | [], _ => by simp [sumA]
  | x :: r, h => by
    have h1 := h x (by simp)
    have h2 := sumA_len zf r (fun y hy => h y (by simp [hy]))
    have e : sumA zf (x :: r) = zf x + sumA zf r := by simp [sumA]
    rw [e, List.length_cons]; omega

set_option maxRecDepth 100000 in
set_option maxHeartbeats 4000000 in
theorem ref_ASize {w : World} {lo A : Nat} {v : Value} {C : List Tri} (h : RRow w lo A v C) (i : Nat) (hi : i < C.length) (zf : Int → Nat) (hbig : zf (i : Int) ≤ 200000)
    (hz : ∀ (j : Nat) (c : Tri), C[j]? = some c → ∃ V, NumsIn w c.2.2 V ∧ (∀ x ∈ V, ∃ k : Nat, x = (k : Int) ∧ k < C.length) ∧ zf (j : Int) = 1 + sumA zf V) :
    Calls Try.prog 13 #[.pointer (some ⟨A, 0, none⟩), .int .i64 (i : Int)] w fun e w' => e = .returned (.int .i64 ((min (zf (i : Int)) 100000 : Nat) : Int)) ∧ Below w.heap.size w w' := by
  have H := Lib.hid h
  have HZ := Lib.hid hz
  obtain ⟨a0, c0, e0⟩ := h.form
  have EV := Lib.hid e0
  have d0 := h.box.at (o := 0) rfl
  rw [e0] at d0
  have hA := h.box.lt
  have hi1 : decide ((i : Int) < 0) = false := by simp
  have hi2 : decide ((C.length : Int) ≤ (i : Int)) = false := by simp; omega
  have hi3 : decide (C.length ≤ i) = false := by simp; omega
  have HI := Lib.hid hi
  clear h hz e0 hi
  go_enter Try.func13, Try.ntmps13
  go_wp2
  have hc0 : CellsAt (w.alloc (.cells #[.int .i64 (i : Int)] 3)) w.heap.size 0 ([(i : Int)].map numV) := cellsAt_new w (.int .i64 (i : Int)) 3
  have HC0 := Lib.hid hc0
  clear hc0
  go_loopg [5, 6, 7] 100000 (fun gk m wt _ wr => ∃ (n : Nat) (M : List Int) (g cap : Nat), m = .int .i64 n ∧ wt = .slice (some ⟨g, 0, none⟩) M.length cap ∧ Hid (M.length ≤ cap ∧ g < wr.heap.size ∧ CellsAt wr g 0 (M.map numV) ∧ (∀ x ∈ M, ∃ k : Nat, x = (k : Int) ∧ k < C.length) ∧ n + sumA zf M = zf (i : Int) ∧ Below w.heap.size w wr ∧ n + gk = 100000))
  case atStart => exact ⟨0, [(i : Int)], w.heap.size, 1, rfl, rfl, Lib.hid ⟨Nat.le_refl _, by simp, HC0.out, fun x hx => ⟨i, by simpa using hx, HI.out⟩, by simp [sumA], new_below _ _, Nat.zero_add _⟩⟩
  case round =>
    obtain ⟨n, M, g, cap, rfl, rfl, R⟩ := hrel
    by_cases hM : M = []
    · subst hM
      go_wp2
      go_ret
      refine ⟨?_, R.out.2.2.2.2.2.1⟩
      have h1 := R.out.2.2.2.2.1
      have h2 := R.out.2.2.2.2.2.2
      simp [sumA] at h1
      rw [← h1, Nat.min_eq_left (by omega)]
      rfl
    · obtain ⟨M0, x, rfl⟩ : ∃ M0 x, M = M0 ++ [x] := ⟨M.dropLast, M.getLast hM, (List.dropLast_concat_getLast hM).symm⟩
      clear hM
      obtain ⟨m, hm⟩ : ∃ m, M0.length = m := ⟨_, rfl⟩
      have hml : (M0 ++ [x]).length = m + 1 := by rw [List.length_append]; simp [hm]
      rw [hml]
      have hnz : (0 : Int) < ((m + 1 : Nat) : Int) := by omega
      have hnz2 : (0 : Int) < (m : Int) + 1 := by omega
      by_cases hn2 : n < 100000
      · obtain ⟨r1, r2, r3, r4, r5, r6, r7⟩ := R.out
        rw [hml] at r1
        obtain ⟨j, rfl, hj⟩ := r4 x (by simp)
        have c1 := r3 m (.int .i64 (j : Int)) (by rw [List.map_append, List.getElem?_append_right (by simp [hm])]; simp [hm])
        rw [Nat.zero_add] at c1
        have d1 := (r6.cell (p := ⟨A, 0, none⟩) hA).trans d0
        have hR := H.out.below r6
        obtain ⟨c, hc⟩ : ∃ c, C[j]? = some c := ⟨_, List.getElem?_eq_getElem hj⟩
        obtain ⟨V, hV, hVk, hVz⟩ := HZ.out j c hc
        obtain ⟨gr, gcap, hv, q1, q2, q3⟩ := hR.at hc
        have hV2 := hV.below r6
        obtain ⟨va, vc, hvv, _⟩ := hV.form
        rw [hvv] at q3 hV2
        rw [EV.out] at hv
        cases hv
        have q4 : wr.cell? ⟨gr, j * 3 + 1 + 1, none⟩ = some (.slice va V.length vc) := q3
        have hcw : CellsAt wr g 0 (M0.map numV) := fun k u hu => r3 k u (by rw [List.map_append, List.getElem?_append_left (List.getElem?_eq_some_iff.1 hu).1]; exact hu)
        have hs1 : sumA zf (M0 ++ [(j : Int)]) = sumA zf M0 + zf (j : Int) := by rw [sumA_append]; simp [sumA]
        have hpos : ∀ y ∈ M0 ++ [(j : Int)], 1 ≤ zf y := fun y hy => by
          obtain ⟨k, rfl, hk⟩ := r4 y hy
          obtain ⟨c', hc'⟩ : ∃ c, C[k]? = some c := ⟨_, List.getElem?_eq_getElem hk⟩
          obtain ⟨V', _, _, hz'⟩ := HZ.out k c' hc'
          omega
        have hposV : ∀ y ∈ V, 1 ≤ zf y := fun y hy => by
          obtain ⟨k, rfl, hk⟩ := hVk y hy
          obtain ⟨c', hc'⟩ : ∃ c, C[k]? = some c := ⟨_, List.getElem?_eq_getElem hk⟩
          obtain ⟨V', _, _, hz'⟩ := HZ.out k c' hc'
          omega
        have hl1 := sumA_len zf _ hpos
        have hl2 := sumA_len zf V hposV
        rw [hml] at hl1
        obtain ⟨g', cap', w', hrun, a1, a2, a3, a4⟩ := app_wait wr 43 g m M0 V (.slice va V.length vc) hm r2 hcw hV2 (by omega)
        have HR := Lib.hid hrun
        have HF : Hid ((M0 ++ V).length ≤ cap' ∧ g' < w'.heap.size ∧ CellsAt w' g' 0 ((M0 ++ V).map numV) ∧ (∀ x ∈ M0 ++ V, ∃ k : Nat, x = (k : Int) ∧ k < C.length) ∧ (n + 1) + sumA zf (M0 ++ V) = zf (i : Int) ∧ Below w.heap.size w w' ∧ (n + 1) + (gk - 1) = 100000) := Lib.hid
          ⟨a1, a2, a3, fun y hy => (List.mem_append.1 hy).elim (fun hy => r4 y (by simp [hy])) (hVk y), by rw [sumA_append]; rw [hs1] at r5; omega, r6.trans (a4.mono r6.size), by omega⟩
        have GK : Hid (gk - 1 < gk) := Lib.hid (by omega)
        have hj2 : (j : Int) < (C.length : Int) := by omega
        have hm2 : (m : Int) < (cap : Int) := by omega
        have hm3 : (m : Int) ≤ 200000 := by omega
        have hnn : (n : Int) < 100000 := by omega
        clear hrun a1 a2 a3 a4 hpos hposV hl1 hl2 hs1 hcw q1 q2 q3 hV hV2 hVk hVz hc hR r3 r4 r5 r6 r7 hm hml hvv R
        go_wp2_with (at_builtin; refine wpList_append_run rfl _ _ 43 rfl _ _ _ _ rfl rfl HR.out ?_)
        go_roundg (gk - 1)
        case measure => exact GK.out
        case rel => exact ⟨n + 1, M0 ++ V, g', cap', by go_num, by rw [List.length_append], HF⟩
      · have hd : decide ((n : Int) < 100000) = false := by simp; omega
        have hd2 : decide (n < 100000) = false := by simpa using hn2
        have HN := Lib.hid hn2
        have HP : Hid (∀ y ∈ M0 ++ [x], 1 ≤ zf y) := Lib.hid fun y hy => by
          obtain ⟨k, rfl, hk⟩ := R.out.2.2.2.1 y hy
          obtain ⟨c', hc'⟩ : ∃ c, C[k]? = some c := ⟨_, List.getElem?_eq_getElem hk⟩
          obtain ⟨V', _, _, hz'⟩ := HZ.out k c' hc'
          omega
        clear hn2 hml hm
        go_wp2
        go_ret
        refine ⟨?_, R.out.2.2.2.2.2.1⟩
        have h1 := R.out.2.2.2.2.1
        have h2 := R.out.2.2.2.2.2.2
        have h3 := HN.out
        rw [Nat.min_eq_right (by omega)]
        show Ending.returned (Value.int .i64 (n : Int)) = _
        rw [show n = 100000 by omega]

end Go.Proofs.Yteigkomefehpjaa
