/- Layer 10: the document's pool: Take. -/
import Derived.Test.YticdfijblcbbbaaRefPoC10
namespace Go.Proofs.Yticdfijblcbbbaa
open Go.RowKit

section
variable {w w' : World} {lo X : Nat} {v : Nat → Value} {tv : Value} {x : Po Int}
theorem ref_Take_full10 (h : RpIs w lo X v tv x) (u : Int) (hF : x.F = []) (hl : x.lim ≤ x.M.length) : Calls Try.prog 10 #[.pointer (some ⟨X, 0, none⟩), .int .i64 u] w fun e w' =>
    e = .returned (.tuple #[.int .i64 0, .int .i64 0, .int .i64 8]) ∧ ∃ n, w' = w.drewN n := by
  obtain ⟨d0, d1, d2, d3, d4⟩ := h.box
  obtain ⟨a0, c0, e0⟩ := own_form (h.own.own 0 (by decide))
  obtain ⟨a3, c3, e3⟩ := own_form (h.own.own 2 (by decide))
  rw [e0, show (rpQ x 0).length = x.M.length by simp [rpQ]] at d0
  rw [e3, show (rpQ x 2).length = 0 by simp [rpQ, hF]] at d3
  have hd : decide ((x.lim : Int) ≤ (x.M.length : Int)) = true := by simpa using hl
  have hd2 : decide (x.lim ≤ x.M.length) = true := by simpa using hl
  generalize x.M.length = n at *
  generalize x.lim = m at *
  clear h hF hl e0 e3 d1 d2
  go_enter Try.func10, Try.ntmps10
  go_wp2
  go_quiet (fail)
  go_wp2
  refine bodyPost_ret (v := .tuple #[.int .i64 0, .int .i64 0, .int .i64 8]) (by simp [results, Try.results10, go_sem]) rfl ⟨rfl, _, rfl⟩
set_option maxHeartbeats 2000000 in
theorem ref_Take_free10 (h : RpIs w lo X v tv x) (hlo : lo ≤ w.heap.size) {F : List Int} {i : Nat} {p : Plc Int} (hF : x.F = F ++ [(i : Int) + 1]) (hp : x.M[i]? = some p) (hl : F.length ≤ 1000000) (hM : x.M.length ≤ 1000000) (u : Int) :
    Calls Try.prog 10 #[.pointer (some ⟨X, 0, none⟩), .int .i64 u] w fun e w' => e = .returned (.tuple #[.int .i64 ((i : Int) + 1), .int .i64 (p.st : Int), .int .i64 0]) ∧
    (∃ v' tv', RpIs w' lo X v' tv' ⟨x.lim, x.M.set i ⟨u, p.st, true⟩, F⟩ ∧ RpNew w.heap.size X v tv v' tv') ∧ Only (RpBlk X v tv) w w' := by
  obtain ⟨hi, hpe⟩ := List.getElem?_eq_some_iff.1 hp
  obtain ⟨d0, d1, d2, d3, d4⟩ := h.box
  have hfr := h.own.own 2 (by decide)
  rw [show rpQ x 2 = F ++ [(i : Int) + 1] by simp [rpQ, hF]] at hfr
  obtain ⟨g, cap, ev, hcap, k3, r3⟩ := fr_init hfr
  rw [ev] at d3
  obtain ⟨va, w5, hrun, hown, hb5⟩ := run_append_copy w 42 (.slice (some ⟨g, 0, none⟩) F.length cap) F (SliceK.of_own r3) hl
  obtain ⟨a5, n5, rfl⟩ := own_form hown
  have hrow := h.row (j := 2) (Only.of_below hb5 _) (by decide) (own_lower hown hlo) (fun g hg => .inr (own_base3 hown g hg))
  obtain ⟨⟨k5, f5⟩, hrest⟩ := hrow
  replace k5 : w5.cell? ⟨X, 3, none⟩ = some (v 2) := k5
  replace f5 : w5.frozen? ⟨X, 3, none⟩ = false := f5
  rw [ev] at k5
  obtain ⟨⟨h3, n3⟩, o3⟩ := hrest
  have H3 : Hid (RpR (w5.setCell ⟨X, 3, none⟩ (.slice a5 F.length n5)) lo X (upd v 2 (.slice a5 F.length n5)) tv (upd (rpQ x) 2 F) (x.M.map (·.tk)) x.lim) := Lib.hid h3
  have O3 : Hid (Only (RpBlk X v tv) w (w5.setCell ⟨X, 3, none⟩ (.slice a5 F.length n5))) := Lib.hid o3
  have N3 := Lib.hid n3
  have HP := Lib.hid hp
  have HI := Lib.hid (show i < (upd (rpQ x) 2 F 0).length ∧ i < (upd (upd (rpQ x) 2 F) 0 ((upd (rpQ x) 2 F 0).set i u) 1).length ∧ i < (x.M.map (·.tk)).length ∧ (upd (rpQ x) 2 F 0).length = x.M.length ∧ (upd (upd (rpQ x) 2 F) 0 ((upd (rpQ x) 2 F 0).set i u) 1).length = x.M.length ∧ (x.M.map (·.tk)).length = x.M.length by simp [upd, rpQ, hi])
  have HK := Lib.hid (show (upd (upd (rpQ x) 2 F) 0 ((upd (rpQ x) 2 F 0).set i u) 1)[i]'HI.out.2.1 = (p.st : Int) by simp [upd, rpQ, hpe])
  generalize hm : F.length = m at *
  have hn0 : (0 : Int) < (m : Int) + 1 := by omega
  have hX := h.blk.lt
  have hi2 : (i : Int) ≤ 1000000 := by omega
  clear h hF hp hlo hown hb5 r3 hfr h3 n3 o3 d0 d1 d2 d4 hm
  go_enter Try.func10, Try.ntmps10
  have HR := Lib.hid hrun
  clear hrun
  go_upto_region 12 with (at_builtin; refine wpList_append_run rfl _ _ 42 rfl _ _ _ _ rfl rfl HR.out ?_)
  generalize w5.setCell ⟨X, 3, none⟩ (.slice a5 m n5) = w3 at *
  clear d3 k3 k5 f5 ev
  obtain ⟨d0, d1, d2, d3, d4⟩ := H3.out.box
  obtain ⟨g0, c0, e0, k0, f0, s0⟩ := H3.out.at (j := 0) (i := i) (by decide) HI.out.1
  rw [e0, HI.out.2.2.2.1] at d0
  have HS := Lib.hid (s0 u)
  clear s0 e0 d1 d3 d4
  go_upto_region 13 with fail
  generalize w3.setCell ⟨g0, i, none⟩ (.int .i64 u) = w4 at *
  have H4 := Lib.hid HS.out.1
  have O4 := Lib.hid HS.out.2
  clear HS d0 d2 k0 f0
  obtain ⟨d0, d1, d2, d3, d4⟩ := H4.out.box
  obtain ⟨g2, c2, e2, k2, f2, s2⟩ := H4.out.atT (i := i) HI.out.2.2.1
  rw [e2, HI.out.2.2.2.2.2] at d2
  have HS := Lib.hid (s2 true)
  clear s2 e2 d0 d1 d3 d4
  go_upto_region 14 with fail
  generalize w4.setCell ⟨g2, i, none⟩ (.bool true) = w5 at *
  have H5 := Lib.hid HS.out.1
  have O5 := Lib.hid HS.out.2
  clear HS d2 k2 f2
  obtain ⟨d0, d1, d2, d3, d4⟩ := H5.out.box
  obtain ⟨g1, c1, e1, k1, f1, _⟩ := H5.out.at (j := 1) (i := i) (by decide) HI.out.2.1
  rw [HK.out] at k1
  have e1' := e1.trans (by rw [show (upd (upd (rpQ x) 2 F) 0 (((upd (rpQ x) 2 F) 0).set i u) 1).length = x.M.length from HI.out.2.2.2.2.1])
  rw [e1'] at d1
  clear d0 d2 d3 d4 e1 e1' f1
  go_quiet (fail)
  go_wp2
  refine bodyPost_ret (v := .tuple #[.int .i64 ((i : Int) + 1), .int .i64 (p.st : Int), .int .i64 0]) (by simp [results, Try.results10, go_sem]) rfl ⟨rfl, ?_, ?_⟩
  · refine ⟨_, _, ?_, N3.out⟩
    have hq : _ = rpQ ⟨x.lim, x.M.set i ⟨u, p.st, true⟩, F⟩ := rpQ_take (F := F) HP.out u
    show RpR _ _ _ _ _ (rpQ ⟨x.lim, x.M.set i ⟨u, p.st, true⟩, F⟩) ((x.M.set i ⟨u, p.st, true⟩).map (·.tk)) x.lim
    rw [← hq, List.map_set]
    exact H5.out.drewN _
  · exact ((O3.out.step O4.out (fun k hk e => (N3.out k e).resolve_right (by omega))).step O5.out (fun k hk e => (N3.out k e).resolve_right (by omega))).drewN _
set_option maxRecDepth 100000 in
set_option maxHeartbeats 4000000 in
theorem ref_Take_new10 (h : RpIs w lo X v tv x) (hlo : lo ≤ w.heap.size) (hF : x.F = []) (hl : x.M.length < x.lim) (hM : x.lim ≤ 65536) (u : Int) :
    Calls Try.prog 10 #[.pointer (some ⟨X, 0, none⟩), .int .i64 u] w fun e w' => e = .returned (.tuple #[.int .i64 ((x.M.length : Int) + 1), .int .i64 0, .int .i64 0]) ∧
    (∃ v' tv', RpIs w' lo X v' tv' ⟨x.lim, x.M ++ [⟨u, 0, true⟩], []⟩ ∧ RpNew w.heap.size X v tv v' tv') ∧ Only (RpBlk X v tv) w w' := by
  obtain ⟨i0, hi0, hz0, hz1, hz2⟩ := info_at infoInt
  obtain ⟨ib, hb0, hbz0, hbz1, hbz2⟩ := info_at infoBool
  obtain ⟨i, hi⟩ : ∃ i, x.M.length = i := ⟨_, rfl⟩
  have HN := Lib.hid hi
  obtain ⟨d0, d1, d2, d3, d4⟩ := h.box
  obtain ⟨a3, c3, e3⟩ := own_form (h.own.own 2 (by decide))
  rw [e3, show (rpQ x 2).length = 0 by simp [rpQ, hF]] at d3
  have hr0 := h.own.own 0 (by decide)
  rw [show rpQ x 0 = x.M.map (·.x) by simp [rpQ]] at hr0
  have l0 : (x.M.map (·.x)).length = i := by simp [hi]
  have l1 : (x.M.map (fun p => (p.st : Int))).length = i := by simp [hi]
  have l2 : (x.M.map (·.tk)).length = i := by simp [hi]
  rw [l0] at hr0
  obtain ⟨oa, oc, oe⟩ := own_form hr0
  rw [oe] at d0
  have H := Lib.hid h.drewN
  have OE := Lib.hid oe
  have L := Lib.hid (And.intro l0 (And.intro l1 (And.intro l2 hF)))
  have hd : decide ((x.lim : Int) ≤ (i : Int)) = false := by simp; omega
  have hd2 : decide (x.lim ≤ i) = false := by simp; omega
  have hib : i < 65536 := by omega
  have hi2 : (i : Int) < 65536 := by omega
  rw [hi] at *
  clear h hF e3 oe l0 l1 l2 d1 d2 hr0 hl hi
  go_enter Try.func10, Try.ntmps10
  go_upto_region 6 with fail
  go_quiet (fail)
  have hr : ∀ n, (w.drewN n).ownsRow lo 3 1 (.slice oa i oc) i ((x.M.map (·.x)).map numV) := fun n => by
    have := (H.out n).own.own 0 (by decide)
    rw [show rpQ x 0 = x.M.map (·.x) by simp [rpQ], L.out.1, OE.out] at this
    exact this
  go_upto_region 9 with (at_builtin; (refine wpList_append_lies _ rfl _ _ 42 rfl lo 3 i0 (.int .i64 0) 1 8 Try.underlying42 hi0 hz0 hz1 hz2 rfl (by decide) _ _ _ rfl ((hr _).alloc _) ⟨w.heap.size, 0, none⟩ 1 1 [.int .i64 0] rfl rfl ?_ ?_ (by decide) ?_ ?_ ?_ (w.heap.size + 1) ?_ ?_); (exact World.news_of_block (Blk.new (l := [.int .i64 0]))); (simp [Value.oneCell']); (simp only [maxLen]; omega); (omega); (simp; omega); (simp); intro g' cap' w9 hown' hgrow hlie hlt'; rw [← OE.out] at hgrow hlie; obtain ⟨⟨k9, f9⟩, hend⟩ := (H.out _).grown (j := 0) (y := 0) (by decide) hgrow hlie (by rw [show (rpQ x 0) = x.M.map (·.x) by simp [rpQ], L.out.1]; exact hown'); rw [OE.out] at k9; replace k9 : w9.cell? ⟨X, 0, none⟩ = _ := k9; replace f9 : w9.frozen? ⟨X, 0, none⟩ = _ := f9; have HD := Lib.hid hend; clear hown' hgrow hlie hlt' hend)
  have H1 : Hid (RpR (w9.setCell ⟨X, 0, none⟩ (.slice (some ⟨g', 0, none⟩) (i + 1) cap')) lo X (upd v 0 (.slice (some ⟨g', 0, none⟩) (i + 1) cap')) tv (upd (rpQ x) 0 (x.M.map (·.x) ++ [0])) (x.M.map (·.tk)) x.lim) := Lib.hid (by have := HD.out.1.1; rw [show (rpQ x 0) = x.M.map (·.x) by simp [rpQ], L.out.1] at this; exact this)
  have O1 := Lib.hid (show Only (RpBlk X v tv) w (w9.setCell ⟨X, 0, none⟩ (.slice (some ⟨g', 0, none⟩) (i + 1) cap')) ∧ RpNew w.heap.size X v tv (upd v 0 (.slice (some ⟨g', 0, none⟩) (i + 1) cap')) tv by
    have := HD.out
    rw [show (rpQ x 0) = x.M.map (·.x) by simp [rpQ], L.out.1] at this
    exact ⟨((Only.refl _ w).drewN _).trans this.2, this.1.2⟩)
  generalize w9.setCell ⟨X, 0, none⟩ (.slice (some ⟨g', 0, none⟩) (i + 1) cap') = w1 at *
  generalize hv1 : upd v 0 (.slice (some ⟨g', 0, none⟩) (i + 1) cap') = v1 at *
  clear HD hr d0 d3 d4 k9 f9 hv1 OE
  have Q1 := Lib.hid (show upd (rpQ x) 0 (x.M.map (·.x) ++ [0]) 1 = x.M.map (fun p => (p.st : Int)) by simp [upd, rpQ])
  obtain ⟨_, d1, _⟩ := H1.out.box
  have hr1 := H1.out.own.own 1 (by decide)
  rw [Q1.out, L.out.2.1] at hr1
  obtain ⟨oa1, oc1, oe1⟩ := own_form hr1
  rw [oe1] at d1 hr1
  have OE1 := Lib.hid oe1
  have hlo1 : lo ≤ w1.heap.size := by have := O1.out.1.size; omega
  clear oe1
  go_upto_region 10 with (at_builtin; (refine wpList_append_lies _ rfl _ _ 42 rfl lo 3 i0 (.int .i64 0) 1 8 Try.underlying42 hi0 hz0 hz1 hz2 rfl (by decide) _ _ _ rfl (hr1.alloc _) ⟨w1.heap.size, 0, none⟩ 1 1 [.int .i64 0] rfl rfl ?_ ?_ (by decide) ?_ ?_ ?_ (w1.heap.size + 1) ?_ ?_); (exact World.news_of_block (Blk.new (l := [.int .i64 0]))); (simp [Value.oneCell']); (simp only [maxLen]; omega); (omega); (simp; omega); (simp); intro g' cap' w9 hown' hgrow hlie hlt'; rw [← OE1.out] at hgrow hlie; obtain ⟨⟨k9, f9⟩, hend⟩ := H1.out.grown (j := 1) (y := 0) (by decide) hgrow hlie (by rw [Q1.out, L.out.2.1]; exact hown'); rw [OE1.out] at k9; replace k9 : w9.cell? ⟨X, 1, none⟩ = _ := k9; replace f9 : w9.frozen? ⟨X, 1, none⟩ = _ := f9; have HD := Lib.hid hend; clear hown' hgrow hlie hlt' hend)
  have H2 : Hid (RpR (w9.setCell ⟨X, 1, none⟩ (.slice (some ⟨g', 0, none⟩) (i + 1) cap')) lo X (upd v1 1 (.slice (some ⟨g', 0, none⟩) (i + 1) cap')) tv (upd (upd (rpQ x) 0 (x.M.map (·.x) ++ [0])) 1 (x.M.map (fun p => (p.st : Int)) ++ [0])) (x.M.map (·.tk)) x.lim) := Lib.hid (by have := HD.out.1.1; rw [Q1.out, L.out.2.1] at this; exact this)
  have O2 := Lib.hid (show Only (RpBlk X v1 tv) w1 (w9.setCell ⟨X, 1, none⟩ (.slice (some ⟨g', 0, none⟩) (i + 1) cap')) ∧ RpNew w1.heap.size X v1 tv (upd v1 1 (.slice (some ⟨g', 0, none⟩) (i + 1) cap')) tv by
    have := HD.out
    rw [Q1.out, L.out.2.1] at this
    exact ⟨this.2, this.1.2⟩)
  generalize w9.setCell ⟨X, 1, none⟩ (.slice (some ⟨g', 0, none⟩) (i + 1) cap') = w2 at *
  generalize hv2 : upd v1 1 (.slice (some ⟨g', 0, none⟩) (i + 1) cap') = v2 at *
  clear HD hr1 d1 k9 f9 hv2 OE1
  obtain ⟨_, _, d2, _⟩ := H2.out.box
  have hr2 := H2.out.tk
  rw [L.out.2.2.1] at hr2
  obtain ⟨oa2, oc2, oe2⟩ := own_form hr2
  rw [oe2] at d2 hr2
  have OE2 := Lib.hid oe2
  have hlo2 : lo ≤ w2.heap.size := by have := O2.out.1.size; omega
  clear oe2
  go_upto_region 11 with (at_builtin; (refine wpList_append_lies _ rfl _ _ 43 rfl lo 4 ib (.bool false) 1 1 Try.underlying43 hb0 hbz0 hbz1 hbz2 rfl (by decide) _ _ _ rfl (hr2.alloc _) ⟨w2.heap.size, 0, none⟩ 1 1 [.bool false] rfl rfl ?_ ?_ (by decide) ?_ ?_ ?_ (w2.heap.size + 1) ?_ ?_); (exact World.news_of_block (Blk.new (l := [.bool false]))); (simp [Value.oneCell']); (simp only [maxLen]; omega); (omega); (simp; omega); (simp); intro g' cap' w9 hown' hgrow hlie hlt'; rw [← OE2.out] at hgrow hlie; obtain ⟨⟨k9, f9⟩, hend⟩ := H2.out.grownT (y := false) hgrow hlie (by rw [L.out.2.2.1]; exact hown'); rw [OE2.out] at k9; have HD := Lib.hid hend; clear hown' hgrow hlie hlt' hend)
  have H3 : Hid (RpR (w9.setCell ⟨X, 2, none⟩ (.slice (some ⟨g', 0, none⟩) (i + 1) cap')) lo X v2 (.slice (some ⟨g', 0, none⟩) (i + 1) cap') (upd (upd (rpQ x) 0 (x.M.map (·.x) ++ [0])) 1 (x.M.map (fun p => (p.st : Int)) ++ [0])) (x.M.map (·.tk) ++ [false]) x.lim) := Lib.hid (by have := HD.out.1.1; rw [L.out.2.2.1] at this; exact this)
  have O3 := Lib.hid (show Only (RpBlk X v2 tv) w2 (w9.setCell ⟨X, 2, none⟩ (.slice (some ⟨g', 0, none⟩) (i + 1) cap')) ∧ RpNew w2.heap.size X v2 tv v2 (.slice (some ⟨g', 0, none⟩) (i + 1) cap') by
    have := HD.out
    rw [L.out.2.2.1] at this
    exact ⟨this.2, this.1.2⟩)
  generalize w9.setCell ⟨X, 2, none⟩ (.slice (some ⟨g', 0, none⟩) (i + 1) cap') = w3 at *
  generalize (Value.slice (some ⟨g', 0, none⟩) (i + 1) cap') = tv3 at *
  clear HD hr2 d2 k9 f9 OE2
  have N3 : Hid (RpNew w.heap.size X v tv v2 tv3) := Lib.hid ((O1.out.2.trans O2.out.2 O1.out.1.size).trans O3.out.2 (Nat.le_trans O1.out.1.size O2.out.1.size))
  have OO : Hid (Only (RpBlk X v tv) w w3) := Lib.hid ((O1.out.1.step O2.out.1 (fun k hk e => (O1.out.2 k e).resolve_right (by omega))).step O3.out.1 (fun k hk e => ((O1.out.2.trans O2.out.2 O1.out.1.size) k e).resolve_right (by omega)))
  have HI := Lib.hid (show i < ((upd (upd (rpQ x) 0 (x.M.map (·.x) ++ [0])) 1 (x.M.map (fun p => (p.st : Int)) ++ [0])) 0).length ∧ i < (upd (upd (upd (rpQ x) 0 (x.M.map (·.x) ++ [0])) 1 (x.M.map (fun p => (p.st : Int)) ++ [0])) 0 (((upd (upd (rpQ x) 0 (x.M.map (·.x) ++ [0])) 1 (x.M.map (fun p => (p.st : Int)) ++ [0])) 0).set i u) 1).length ∧ i < (x.M.map (·.tk) ++ [false]).length ∧ ((upd (upd (rpQ x) 0 (x.M.map (·.x) ++ [0])) 1 (x.M.map (fun p => (p.st : Int)) ++ [0])) 0).length = i + 1 ∧ (upd (upd (upd (rpQ x) 0 (x.M.map (·.x) ++ [0])) 1 (x.M.map (fun p => (p.st : Int)) ++ [0])) 0 (((upd (upd (rpQ x) 0 (x.M.map (·.x) ++ [0])) 1 (x.M.map (fun p => (p.st : Int)) ++ [0])) 0).set i u) 1).length = i + 1 ∧ (x.M.map (·.tk) ++ [false]).length = i + 1 by
    have h1 := L.out.1
    have h2 := L.out.2.1
    have h3 := L.out.2.2.1
    simp [upd] at h1 ⊢
    omega)
  have HK := Lib.hid (show (upd (upd (upd (rpQ x) 0 (x.M.map (·.x) ++ [0])) 1 (x.M.map (fun p => (p.st : Int)) ++ [0])) 0 (((upd (upd (rpQ x) 0 (x.M.map (·.x) ++ [0])) 1 (x.M.map (fun p => (p.st : Int)) ++ [0])) 0).set i u) 1)[i]'HI.out.2.1 = 0 by
    have h1 := L.out.1
    simp at h1
    simp [upd, ← h1])
  obtain ⟨d0, _⟩ := H3.out.box
  obtain ⟨za, zc, ze⟩ := own_form (H3.out.own.own 0 (by decide))
  rw [ze, HI.out.2.2.2.1] at d0
  clear ze
  go_upto_region 12 with fail
  clear d0
  obtain ⟨d0, d1, d2, d3, d4⟩ := H3.out.box
  obtain ⟨g0, c0, e0, k0, f0, s0⟩ := H3.out.at (j := 0) (i := i) (by decide) HI.out.1
  rw [e0, HI.out.2.2.2.1] at d0
  have HS := Lib.hid (s0 u)
  clear s0 e0 d1 d3 d4
  go_upto_region 13 with fail
  generalize w3.setCell ⟨g0, i, none⟩ (.int .i64 u) = w4 at *
  have H4 := Lib.hid HS.out.1
  have O4 := Lib.hid HS.out.2
  clear HS d0 d2 k0 f0
  obtain ⟨d0, d1, d2, d3, d4⟩ := H4.out.box
  obtain ⟨g2, c2, e2, k2, f2, s2⟩ := H4.out.atT (i := i) HI.out.2.2.1
  rw [e2, HI.out.2.2.2.2.2] at d2
  have HS := Lib.hid (s2 true)
  clear s2 e2 d0 d1 d3 d4
  go_upto_region 14 with fail
  generalize w4.setCell ⟨g2, i, none⟩ (.bool true) = w5 at *
  have H5 := Lib.hid HS.out.1
  have O5 := Lib.hid HS.out.2
  clear HS d2 k2 f2
  obtain ⟨d0, d1, d2, d3, d4⟩ := H5.out.box
  obtain ⟨g1, c1, e1, k1, f1, _⟩ := H5.out.at (j := 1) (i := i) (by decide) HI.out.2.1
  rw [HK.out] at k1
  have e1' := e1.trans (by rw [show (upd (upd (upd (rpQ x) 0 (x.M.map (·.x) ++ [0])) 1 (x.M.map (fun p => (p.st : Int)) ++ [0])) 0 (((upd (upd (rpQ x) 0 (x.M.map (·.x) ++ [0])) 1 (x.M.map (fun p => (p.st : Int)) ++ [0])) 0).set i u) 1).length = i + 1 from HI.out.2.2.2.2.1])
  rw [e1'] at d1
  clear d0 d2 d3 d4 e1 e1' f1
  go_quiet (fail)
  go_wp2
  refine bodyPost_ret (v := .tuple #[.int .i64 ((i : Int) + 1), .int .i64 0, .int .i64 0]) (by simp [results, Try.results10, go_sem]) rfl ⟨rfl, ?_, ?_⟩
  · refine ⟨_, _, ?_, N3.out⟩
    have hq : _ = rpQ ⟨x.lim, x.M ++ [⟨u, 0, true⟩], []⟩ := rpQ_new u L.out.2.2.2
    show RpR _ _ _ _ _ (rpQ ⟨x.lim, x.M ++ [⟨u, 0, true⟩], []⟩) ((x.M ++ [(⟨u, 0, true⟩ : Plc Int)]).map (·.tk)) x.lim
    have hn : x.M.length = i := by have := L.out.1; simpa using this
    rw [← hq, hn, List.map_append, List.map_cons, List.map_nil]
    have h5 := H5.out.drewN
    have ht : (x.M.map (·.tk) ++ [false]).set i true = x.M.map (·.tk) ++ [true] := by rw [← hn]; simp
    rw [ht] at h5
    exact h5 _
  · exact ((OO.out.step O4.out (fun k hk e => (N3.out k e).resolve_right (by omega))).step O5.out (fun k hk e => (N3.out k e).resolve_right (by omega))).drewN _
/-- Take, whichever way. -/
theorem ref_Take10 (h : RpIs w lo X v tv x) (hlo : lo ≤ w.heap.size) (hf : FOk x) (hl : x.F.length ≤ 1000000) (hm : x.M.length ≤ x.lim) (hM : x.lim ≤ 65536) {u : Int} {j : Int} {s : Nat} {y : Po Int} (ht : takeZ x u = some (j, s, y)) :
    Calls Try.prog 10 #[.pointer (some ⟨X, 0, none⟩), .int .i64 u] w fun e w' => e = .returned (.tuple #[.int .i64 j, .int .i64 (s : Int), .int .i64 0]) ∧
    (∃ v' tv', RpIs w' lo X v' tv' y ∧ RpNew w.heap.size X v tv v' tv') ∧ Only (RpBlk X v tv) w w' := by
  rcases free_last hf with e | ⟨F, i, p, e, hp⟩
  · by_cases hx : x.lim ≤ x.M.length
    · rw [takeZ_full e hx] at ht; cases ht
    · rw [takeZ_new e hx] at ht
      simp only [Option.some.injEq, Prod.mk.injEq] at ht
      obtain ⟨rfl, rfl, rfl⟩ := ht
      exact ref_Take_new10 h hlo e (by omega) hM u
  · rw [takeZ_free e hp] at ht
    simp only [Option.some.injEq, Prod.mk.injEq] at ht
    obtain ⟨rfl, rfl, rfl⟩ := ht
    exact ref_Take_free10 h hlo e hp (by rw [e] at hl; simp at hl; omega) (by omega) u
end

end Go.Proofs.Yticdfijblcbbbaa
