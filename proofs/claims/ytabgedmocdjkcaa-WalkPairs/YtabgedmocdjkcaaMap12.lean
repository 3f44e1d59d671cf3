/- Maps of pointers: Put. Made by tools/gen_ptr12.py. -/
import Derived.Test.YtabgedmocdjkcaaJoin14
import Derived.Test.YtabgedmocdjkcaaSet3
import Derived.Test.YtabgedmocdjkcaaRepl12
namespace Go.Proofs.Ytabgedmocdjkcaa
open Go.RowKit Go.Shelf

theorem pt_one (E : List Ent) : ∀ v ∈ E.flatMap encQ, v.oneCell' = true := fun v hv => by
  obtain ⟨p, _, hp⟩ := List.mem_flatMap.1 hv
  rcases List.mem_cons.1 hp with rfl | hp
  · rfl
  · rcases List.mem_cons.1 hp with rfl | hp
    · rfl
    · simp at hp
theorem put_pts (q : Ent) (E : List Ent) (n m : Nat) : (E.flatMap encQ).take (n * 2) ++ (encQ q ++ (E.flatMap encQ).drop (m * 2)) = (E.take n ++ q :: E.drop m).flatMap encQ := by
  rw [pts_take, pts_drop, List.flatMap_append, List.flatMap_cons]
theorem cut_pts (E : List Ent) (n m : Nat) : (E.flatMap encQ).take (n * 2) ++ ([] ++ (E.flatMap encQ).drop (m * 2)) = (E.take n ++ E.drop m).flatMap encQ := by
  rw [pts_take, pts_drop, List.flatMap_append]; rfl
/-- Entries that lie in a block of their own, behind a store elsewhere. -/
theorem pts_made {W : World} {g : Nat} {M : List Ent} {N : Nat} (hN : N = M.length) (hg : g < W.heap.size) (hc : CellsAt W g 0 (M.flatMap encQ)) (p : Addr) (u : Value) (hp : p.block ≠ g) : PtsIn (W.setCell p u) (.slice (some ⟨g, 0, none⟩) N N) M := by
  subst hN
  refine ⟨pts_len M, .inr ⟨g, 0, _, rfl, Nat.le_refl _, by simpa [World.setCell] using hg, fun j v hv => ?_⟩⟩
  have := hc j v hv
  rw [← this]
  exact World.cell?_of_block (w := W) (Below.heap_setCell _ _ _ _ (fun e => hp (Eq.symm e)))

set_option maxRecDepth 100000 in
set_option maxHeartbeats 2000000 in
theorem kids_Put (v : Value) (E : List Ent) (k : Key) (x : Int) (w : World) (h : KidsIn w v E) (hbig : E.length ≤ 100000) :
    Calls Try.prog 62 #[v, keyV k, ptrV x] w fun e w' => ∃ r, e = .returned r ∧ KidsIn w' r (putE k x E) ∧ Below w.heap.size w w' ∧ Apart w.heap.size v r := by
  have HM := Lib.hid h
  obtain ⟨⟨s, rfl, hs⟩, hu⟩ := h
  have hB : ∀ o o', Below w.heap.size w ((w.alloc o).alloc o') := fun o o' => ((Below.refl _ _).alloc (Nat.le_refl _) _).alloc (by simp) _
  have hp := plc_le (ltE k) E
  have HU : Hid (KUp (putE k x E)) := kup_putE hu
  have hpf := place_facts k E hu
  rcases hs.2 with ⟨rfl, h0⟩ | ⟨b, off, cap, rfl, hcap, hb, hc⟩
  · obtain rfl : E = [] := List.eq_nil_of_length_eq_zero h0
    have hfd := fun W hM => kids_find (.agg #[.slice none 0 0]) [] k W hM (by simp) false (by simp)
    rw [show plc (ltE k) [] = 0 from rfl] at hfd
    clear hpf
    go_enter Try.func62, Try.ntmps62
    go_wp2_with fail
    obtain ⟨W2, hW, b2, z2, r2, f2⟩ := two w (.cells #[.slice none 0 0] 81) (.slice none 0 0) 81
    have c0 : W2.cell? ⟨w.heap.size, 0, none⟩ = some (.slice none 0 0) := by
      rw [← hW, World.cell?_alloc_lt _ _ _ (by simp)]; simp
    rw [hW]
    refine (hfd W2 (HM.out.below b2)).mono ?_
    rintro e w3 ⟨rfl, hB3⟩
    have c0 := (hB3.cell (p := ⟨w.heap.size, 0, none⟩) (by show w.heap.size < W2.heap.size; omega)).trans c0
    have r3 := (hB3.cell (p := ⟨w.heap.size + 1, 0, none⟩) (by show w.heap.size + 1 < W2.heap.size; omega)).trans r2
    have f3 := (hB3.frozen (p := ⟨w.heap.size + 1, 0, none⟩) (by show w.heap.size + 1 < W2.heap.size; omega)).trans f2
    have hz := hB3.size
    have B3 := Lib.hid (b2.trans (hB3.mono b2.size))
    clear hW b2 hB3 r2 f2
    go_wp2_with fail
    have hb4 : Below w3.heap.size w3 (w3.alloc (.cells #[keyV k, ptrV x] 106)) := (Below.refl _ _).alloc (Nat.le_refl _) _
    have c4 := cellsAt_block w3 (encQ (k, x)) 106
    have z4 : (w3.alloc (.cells #[keyV k, ptrV x] 106)).heap.size = w3.heap.size + 1 := by simp
    refine (repl_pts_new w3.heap.size (encQ (k, x)) (w3.alloc (.cells #[keyV k, ptrV x] 106)) rfl (by simp) c4 (by simp [encQ, Value.oneCell'])).mono ?_
    rintro e w5 ⟨N, rfl, hN, hB5, hg5, hc5⟩
    have k1 := (hB5.cell (p := ⟨w.heap.size + 1, 0, none⟩) (by rw [z4]; show w.heap.size + 1 < w3.heap.size + 1; omega)).trans ((hb4.cell (p := ⟨w.heap.size + 1, 0, none⟩) (by show w.heap.size + 1 < w3.heap.size; omega)).trans r3)
    have k2 := (hB5.frozen (p := ⟨w.heap.size + 1, 0, none⟩) (by rw [z4]; show w.heap.size + 1 < w3.heap.size + 1; omega)).trans ((hb4.frozen (p := ⟨w.heap.size + 1, 0, none⟩) (by show w.heap.size + 1 < w3.heap.size; omega)).trans f3)
    have B5 := Lib.hid (below_step B3.out (below_step hb4 hB5))
    have C5 := Lib.hid hc5
    rw [z4] at hg5 C5
    clear hc5 hb4 hB5 c4
    go_wp2
    refine bodyPost_ret (by simp [results, Try.f62, go_sem, k1]; first | rfl | exact ⟨rfl, rfl⟩) rfl ⟨_, rfl, ⟨⟨_, rfl, ?_⟩, HU.out⟩, B5.out.setCell (p := ⟨w.heap.size + 1, 0, none⟩) (by show w.heap.size ≤ w.heap.size + 1; omega) _, .inr ⟨_, _, by omega, rfl⟩⟩
    exact pts_made (M := putE k x []) (N := 1) rfl hg5 C5.out ⟨w.heap.size + 1, 0, none⟩ _ (by show w.heap.size + 1 ≠ w3.heap.size + 1; omega)
  · rcases hpf with ⟨u, r, g1, g2, g3, g4, g5⟩ | ⟨g1, g2, g3, g4⟩
    · have hpl : plc (ltE k) E < E.length := by
        have := congrArg List.length g1
        rw [List.length_drop, List.length_cons] at this; omega
      have hfd := fun W hM => kids_find (.agg #[.slice (some ⟨b, off, none⟩) E.length cap]) E k W hM (by omega) true (by
        simp only [true_iff]
        refine ⟨(k, u), ?_, rfl⟩
        have := congrArg (fun l => l[0]?) g1
        simpa using this)
      have HP := Lib.hid (show E.take (plc (ltE k) E) ++ (k, x) :: E.drop (plc (ltE k) E + 1) = putE k x E by rw [g2 x, g5])
      clear g1 g2 g3 g4 g5
      go_enter Try.func62, Try.ntmps62
      go_wp2_with fail
      obtain ⟨W2, hW, b2, z2, r2, f2⟩ := two w (.cells #[.slice (some ⟨b, off, none⟩) E.length cap] 81) (.slice none 0 0) 81
      have c0 : W2.cell? ⟨w.heap.size, 0, none⟩ = some (.slice (some ⟨b, off, none⟩) E.length cap) := by
        rw [← hW, World.cell?_alloc_lt _ _ _ (by simp)]; simp
      rw [hW]
      refine (hfd W2 (HM.out.below b2)).mono ?_
      rintro e w3 ⟨rfl, hB3⟩
      have c0 := (hB3.cell (p := ⟨w.heap.size, 0, none⟩) (by show w.heap.size < W2.heap.size; omega)).trans c0
      have r3 := (hB3.cell (p := ⟨w.heap.size + 1, 0, none⟩) (by show w.heap.size + 1 < W2.heap.size; omega)).trans r2
      have f3 := (hB3.frozen (p := ⟨w.heap.size + 1, 0, none⟩) (by show w.heap.size + 1 < W2.heap.size; omega)).trans f2
      have hz := hB3.size
      have B3 := Lib.hid (b2.trans (hB3.mono b2.size))
      clear hW b2 hB3 r2 f2
      go_wp2_with fail
      have hb4 : Below w3.heap.size w3 (w3.alloc (.cells #[keyV k, ptrV x] 106)) := (Below.refl _ _).alloc (Nat.le_refl _) _
      have c4 := cellsAt_block w3 (encQ (k, x)) 106
      have z4 : (w3.alloc (.cells #[keyV k, ptrV x] 106)).heap.size = w3.heap.size + 1 := by simp
      have hr := repl_pts_put b off E.length cap (plc (ltE k) E) (E.flatMap encQ) (plc (ltE k) E + 1) w3.heap.size (encQ (k, x)) (w3.alloc (.cells #[keyV k, ptrV x] 106)) (pts_len E) hcap (by rw [z4]; omega) (hc.below (B3.out.trans (hb4.mono (by omega))) hb) (by omega) (pt_one E) rfl (by simp) c4 (by simp [encQ, Value.oneCell']) (by omega) (by omega)
      rw [show (((plc (ltE k) E + 1 : Nat)) : Int) = (plc (ltE k) E : Int) + 1 by omega] at hr
      refine hr.mono ?_
      rintro e w5 ⟨N, rfl, hN, hB5, hg5, hc5⟩
      rw [put_pts, HP.out] at hc5
      have hN' : N = (putE k x E).length := by rw [← HP.out, hN]; simp; omega
      have k1 := (hB5.cell (p := ⟨w.heap.size + 1, 0, none⟩) (by rw [z4]; show w.heap.size + 1 < w3.heap.size + 1; omega)).trans ((hb4.cell (p := ⟨w.heap.size + 1, 0, none⟩) (by show w.heap.size + 1 < w3.heap.size; omega)).trans r3)
      have k2 := (hB5.frozen (p := ⟨w.heap.size + 1, 0, none⟩) (by rw [z4]; show w.heap.size + 1 < w3.heap.size + 1; omega)).trans ((hb4.frozen (p := ⟨w.heap.size + 1, 0, none⟩) (by show w.heap.size + 1 < w3.heap.size; omega)).trans f3)
      have B5 := Lib.hid (below_step B3.out (below_step hb4 hB5))
      have C5 := Lib.hid hc5
      have HN := Lib.hid hN'
      rw [z4] at hg5 C5
      clear hc5 hb4 hB5 c4 hN hN' hr
      go_wp2
      refine bodyPost_ret (by simp [results, Try.f62, go_sem, k1]; first | rfl | exact ⟨rfl, rfl⟩) rfl ⟨_, rfl, ⟨⟨_, rfl, ?_⟩, HU.out⟩, B5.out.setCell (p := ⟨w.heap.size + 1, 0, none⟩) (by show w.heap.size ≤ w.heap.size + 1; omega) _, .inr ⟨_, _, by omega, rfl⟩⟩
      exact pts_made (M := putE k x E) HN.out hg5 C5.out ⟨w.heap.size + 1, 0, none⟩ _ (by show w.heap.size + 1 ≠ w3.heap.size + 1; omega)
    · have hfd := fun W hM => kids_find (.agg #[.slice (some ⟨b, off, none⟩) E.length cap]) E k W hM (by omega) false (by
        simp only [Bool.false_eq_true, false_iff]
        rintro ⟨p, hp1, hp2⟩
        exact g1 p hp1 hp2)
      have HP := Lib.hid (show E.take (plc (ltE k) E) ++ (k, x) :: E.drop (plc (ltE k) E) = putE k x E by rw [g2 x])
      clear g1 g2 g3 g4
      go_enter Try.func62, Try.ntmps62
      go_wp2_with fail
      obtain ⟨W2, hW, b2, z2, r2, f2⟩ := two w (.cells #[.slice (some ⟨b, off, none⟩) E.length cap] 81) (.slice none 0 0) 81
      have c0 : W2.cell? ⟨w.heap.size, 0, none⟩ = some (.slice (some ⟨b, off, none⟩) E.length cap) := by
        rw [← hW, World.cell?_alloc_lt _ _ _ (by simp)]; simp
      rw [hW]
      refine (hfd W2 (HM.out.below b2)).mono ?_
      rintro e w3 ⟨rfl, hB3⟩
      have c0 := (hB3.cell (p := ⟨w.heap.size, 0, none⟩) (by show w.heap.size < W2.heap.size; omega)).trans c0
      have r3 := (hB3.cell (p := ⟨w.heap.size + 1, 0, none⟩) (by show w.heap.size + 1 < W2.heap.size; omega)).trans r2
      have f3 := (hB3.frozen (p := ⟨w.heap.size + 1, 0, none⟩) (by show w.heap.size + 1 < W2.heap.size; omega)).trans f2
      have hz := hB3.size
      have B3 := Lib.hid (b2.trans (hB3.mono b2.size))
      clear hW b2 hB3 r2 f2
      go_wp2_with fail
      have hb4 : Below w3.heap.size w3 (w3.alloc (.cells #[keyV k, ptrV x] 106)) := (Below.refl _ _).alloc (Nat.le_refl _) _
      have c4 := cellsAt_block w3 (encQ (k, x)) 106
      have z4 : (w3.alloc (.cells #[keyV k, ptrV x] 106)).heap.size = w3.heap.size + 1 := by simp
      have hr := repl_pts_put b off E.length cap (plc (ltE k) E) (E.flatMap encQ) (plc (ltE k) E) w3.heap.size (encQ (k, x)) (w3.alloc (.cells #[keyV k, ptrV x] 106)) (pts_len E) hcap (by rw [z4]; omega) (hc.below (B3.out.trans (hb4.mono (by omega))) hb) (by omega) (pt_one E) rfl (by simp) c4 (by simp [encQ, Value.oneCell']) (by omega) (by omega)
      refine hr.mono ?_
      rintro e w5 ⟨N, rfl, hN, hB5, hg5, hc5⟩
      rw [put_pts, HP.out] at hc5
      have hN' : N = (putE k x E).length := by rw [← HP.out, hN]; simp; omega
      have k1 := (hB5.cell (p := ⟨w.heap.size + 1, 0, none⟩) (by rw [z4]; show w.heap.size + 1 < w3.heap.size + 1; omega)).trans ((hb4.cell (p := ⟨w.heap.size + 1, 0, none⟩) (by show w.heap.size + 1 < w3.heap.size; omega)).trans r3)
      have k2 := (hB5.frozen (p := ⟨w.heap.size + 1, 0, none⟩) (by rw [z4]; show w.heap.size + 1 < w3.heap.size + 1; omega)).trans ((hb4.frozen (p := ⟨w.heap.size + 1, 0, none⟩) (by show w.heap.size + 1 < w3.heap.size; omega)).trans f3)
      have B5 := Lib.hid (below_step B3.out (below_step hb4 hB5))
      have C5 := Lib.hid hc5
      have HN := Lib.hid hN'
      rw [z4] at hg5 C5
      clear hc5 hb4 hB5 c4 hN hN' hr
      go_wp2
      refine bodyPost_ret (by simp [results, Try.f62, go_sem, k1]; first | rfl | exact ⟨rfl, rfl⟩) rfl ⟨_, rfl, ⟨⟨_, rfl, ?_⟩, HU.out⟩, B5.out.setCell (p := ⟨w.heap.size + 1, 0, none⟩) (by show w.heap.size ≤ w.heap.size + 1; omega) _, .inr ⟨_, _, by omega, rfl⟩⟩
      exact pts_made (M := putE k x E) HN.out hg5 C5.out ⟨w.heap.size + 1, 0, none⟩ _ (by show w.heap.size + 1 ≠ w3.heap.size + 1; omega)


end Go.Proofs.Ytabgedmocdjkcaa
