/- What the program's layer 12 (package node) comes to: WithKid. -/
import Derived.Test.YtabgedmocdjkcaaNodeA12
namespace Go.Proofs.Ytabgedmocdjkcaa
open Go.RowKit Go.Shelf

attribute [local go_sem] Oper.semAt_some
/-- How many the kids are, by a reckoning of each. -/
def sumZ (zf : Int → Nat) (E : List Ent) : Nat := (E.map fun p => zf p.2).sum
theorem sumZ_snoc (zf : Int → Nat) (E : List Ent) (p : Ent) : sumZ zf (E ++ [p]) = sumZ zf E + zf p.2 := by simp [sumZ]
theorem sumZ_le (zf : Int → Nat) (B : Nat) : ∀ E : List Ent, (∀ p ∈ E, zf p.2 ≤ B) → sumZ zf E ≤ E.length * B
  | [], _ => by simp [sumZ]
  | p :: r, h => by
    have h1 := h p (by simp)
    have h2 := sumZ_le zf B r (fun q hq => h q (by simp [hq]))
    have e : sumZ zf (p :: r) = zf p.2 + sumZ zf r := by simp [sumZ]
    rw [e, List.length_cons, Nat.succ_mul]; omega
theorem sumZ_prefix (zf : Int → Nat) {pre E : List Ent} (h : pre <+: E) : sumZ zf pre ≤ sumZ zf E := by
  obtain ⟨t, rfl⟩ := h
  simp [sumZ]

theorem keeps_drew {W : World} (B d : Nat) (p : Addr) (u : Value) : KeepsFrom B W ((W.drewN d).setCell p u) := by
  have h := (KeepsOthers.setCell (W.drewN d) p u).from B
  exact ⟨h.1, h.2⟩
theorem kpS_drew {s : Value} {n₀ b : Nat} {W : World} (hoff : ∀ g off n c, s = .slice (some ⟨g, off, none⟩) n c → ¬ (g = b ∨ n₀ ≤ g)) (d o : Nat) (u : Value) : KpS s W ((W.drewN d).setCell ⟨b, o, none⟩ u) :=
  kpS_only (S := fun k => k = b) (((Only.refl (fun k => k = b) W).drewN d).setCell (p := ⟨b, o, none⟩) (.inl rfl) u) (fun g off n c hs e => hoff g off n c hs (.inl e))
theorem put_only {W0 W : World} {n₀ b D : Nat} {o : Obj} (hO : Only (fun k => k = b ∨ n₀ ≤ k) W0 W) (hD : n₀ ≤ D) : Only (fun k => k = b ∨ n₀ ≤ k) W0 (W.putObj D o) :=
  hO.trans ((grown_only (grownBy_putObj' W D o)).mono (fun k _ e => .inr (by cases e; exact hD)))

set_option maxRecDepth 100000 in
set_option maxHeartbeats 4000000 in
theorem nd_WithKid0 {S : Nat → Prop} (p q : Value) (L Lq : List Int) (E Eq : List Ent) (n nq : Nat) (k : Key) (w : World) (hS : ∀ i, w.heap.size ≤ i → ¬ S i) (h : PIs S w p L E n) (hq : PIs S w q Lq Eq nq) (hbig : E.length ≤ 100000) (E' : List Ent)
    (hE' : (Lq = [] ∧ Eq = [] ∧ E' = dropE k E) ∨ (¬ (Lq = [] ∧ Eq = []) ∧ ∃ x, q = ptrV x ∧ E' = putE k x E)) (zf : Int → Nat) (hz : ∀ p ∈ E', (∃ L E, PIs S w (ptrV p.2) L E (zf p.2)) ∧ zf p.2 ≤ 100000) :
    Calls Try.prog 42 #[p, keyV k, q] w fun e w' => ∃ b, e = .returned (.pointer (some ⟨b, 0, none⟩)) ∧ NdIs S w' b L E' (sumZ zf E') ∧ Below w.heap.size w w' := by
  obtain ⟨a1, n1, c1, a2, n2, c2, hs, hk, _, ho1, ho2, hval⟩ := nd_value p L E n w h
  have HV := Lib.hid hval
  have HQ := Lib.hid hq
  have HS := Lib.hid hs
  have HK := Lib.hid hk
  have HZ := Lib.hid hz
  have HO1 := Lib.hid ho1
  have HO2 := Lib.hid ho2
  have HSS := Lib.hid hS
  clear h hval hq hs hk hz ho1 ho2 hS
  have hlen : E'.length ≤ 100001 := by
    rcases hE' with ⟨_, _, e⟩ | ⟨_, x, _, e⟩
    · have := dropE_length k E
      rw [e]; omega
    · have := putE_length k x E
      rw [e]; omega
  refine (callsIn_wide (n := 6)).1 ?_
  refine callsIn_of_wp_marks Try.func42 rfl trivial ?_ rfl
  simp only [Try.ntmps42, List.size_toArray, List.length_cons, List.length_nil, Nat.reduceAdd, Nat.reduceSub, Array.replicate_succ, Array.replicate_zero, List.push_toArray, List.append_toArray, List.nil_append, List.cons_append]
  gi_wp2_with fail
  refine ⟨trivial, (callsIn_wide.2 (HV.out w (Below.refl _ _))).mono ?_⟩
  rintro e w1 ⟨rfl, hB1⟩
  have B1 := Lib.hid hB1
  clear hB1
  gi_wp2_with fail
  obtain ⟨W2, hW2⟩ : ∃ W, W = w1.alloc (.cells #[.slice a1 n1 c1, .slice a2 n2 c2, .int .i64 ((n - 1 : Nat) : Int)] 83) := ⟨_, rfl⟩
  have hb2 : Blk 83 W2 w1.heap.size [.slice a1 n1 c1, .slice a2 n2 c2, .int .i64 ((n - 1 : Nat) : Int)] := by rw [hW2]; exact Blk.new
  have B2 : Hid (Below w1.heap.size w1 W2) := by rw [hW2]; exact new_below _ _
  have z2 : W2.heap.size = w1.heap.size + 1 := by rw [hW2]; simp
  rw [← hW2]
  clear hW2
  have KB : Hid (∀ bare : Bool, (bare = true ↔ Lq = [] ∧ Eq = []) → Calls Try.prog 60 #[q] W2 fun e w' => e = .returned (.bool bare) ∧ Below W2.heap.size W2 w') :=
    Lib.hid fun bare hb => nd_Bare q Lq Eq nq W2 (HQ.out.below (below_step B1.out B2.out)) bare hb
  have hKW : Hid (KidsIn W2 (.agg #[.slice a2 n2 c2]) E) := Lib.hid (HK.out.below (below_step B1.out B2.out))
  rcases hE' with ⟨e1, e2, e3⟩ | ⟨hne, x, rfl, e3⟩
  · have hb := KB.out true (by simp [e1, e2])
    have H3 := Lib.hid e3
    clear KB e3
    refine ⟨trivial, (callsIn_wide.2 hb).mono ?_⟩
    rintro e w3 ⟨rfl, hB3⟩
    have hb3 := hb2.below hB3 hb2.lt
    have k1 := hb3.at (o := 1) rfl
    have B3 := Lib.hid hB3
    have z3 := hB3.size
    clear hB3 hb
    gi_wp2_with fail
    refine ⟨trivial, (callsIn_wide.2 (kids_Drop _ E k w3 (hKW.out.below B3.out) (by omega))).mono ?_⟩
    rintro e w4 ⟨r, rfl, hr, hB4, ha⟩
    rw [← H3.out] at hr
    obtain ⟨a, m, c, rfl⟩ := hr.form
    have hoff : Hid (∀ g off n' c', Value.slice a m c = .slice (some ⟨g, off, none⟩) n' c' → g ≠ w1.heap.size) := Lib.hid (by
      obtain ⟨⟨s', hv, hs'⟩, _⟩ := HK.out.below B1.out
      cases hv
      exact apart_off hs' ha (Nat.le_refl _) (by omega))
    have HO4 : Hid (Off S (.slice a m c)) := Lib.hid (HO2.out.apart ha HSS.out (by have := B1.out.size; omega))
    have hb4 := hb3.below hB4 hb3.lt
    have k1 := hb4.at (o := 1) rfl
    have k2 := hb4.at (o := 2) rfl
    have f1 := hb4.frozen 1
    have f2 := hb4.frozen 2
    have HR := Lib.hid hr
    have HB4 := Lib.hid hb4
    have B4 := Lib.hid (below_step B3.out hB4)
    have z4 := hB4.size
    clear hr hb4 hb3 hB4 ha H3 B3
    gi_wp2_with fail
    obtain ⟨W6, hW6⟩ : ∃ W, W = (w4.setCell ⟨w1.heap.size, 1, none⟩ (.slice a m c)).setCell ⟨w1.heap.size, 2, none⟩ (.int .i64 0) := ⟨_, rfl⟩
    rw [← hW6]
    have hb6 : Blk 83 W6 w1.heap.size [.slice a1 n1 c1, .slice a m c, .int .i64 ((0 : Nat) : Int)] := by
      rw [hW6]; simpa using (HB4.out.set 1 (.slice a m c)).set 2 (.int .i64 0)
    have B6 : Hid (Below w1.heap.size w1 W6) := Lib.hid (by
      rw [hW6]
      exact ((below_step B2.out B4.out).setCell (p := ⟨w1.heap.size, 1, none⟩) (Nat.le_refl _) _).setCell (p := ⟨w1.heap.size, 2, none⟩) (Nat.le_refl _) _)
    have hk6 : KidsIn W6 (.agg #[.slice a m c]) E' := by
      obtain ⟨⟨s', hv, hs'⟩, hu'⟩ := HR.out
      cases hv
      rw [hW6]
      exact ⟨⟨_, rfl, sliceK_set (sliceK_set hs' hoff.out) hoff.out⟩, hu'⟩
    have z6 : W6.heap.size = w4.heap.size := by rw [hW6]; simp [World.setCell]
    clear hW6
    have hn6 : NdIs (fun _ => False) W6 w1.heap.size L E' 0 := ⟨_, _, _, _, _, _, hb6, HS.out.below (B1.out.trans (B6.out.mono B1.out.size)), hk6, fun _ _ _ _ _ h => h, fun _ _ _ _ _ h => h, fun h => h⟩
    obtain ⟨s, hks, hcs, hcall⟩ := nd_Kids (S := fun _ => False) (.pointer (some ⟨w1.heap.size, 0, none⟩)) L E' 1 W6 (.inr ⟨_, rfl, Nat.le_refl _, hn6⟩)
    obtain rfl : Value.slice a m c = s := by
      have h1 := hcs _ rfl
      rw [hb6.at (o := 1) rfl] at h1
      exact Option.some.inj h1
    refine ⟨trivial, (callsIn_wide.2 (hcall W6 (Below.refl _ _))).mono ?_⟩
    rintro e w7 ⟨W7, hB7, rfl, rfl⟩
    clear hcall hcs
    gi_wp2_with fail
    have B7 := Lib.hid hB7
    have hz7 := hB7.size
    have hb7 := hb6.below hB7 hb6.lt
    have hp7 : PtsIn W7 (.slice a m c) E' := by
      obtain ⟨⟨s', hv, hs'⟩, _⟩ := hks.below hB7
      cases hv
      exact hs'
    have hs7 := HS.out.below (B1.out.trans ((B6.out.mono B1.out.size).trans (hB7.mono (by have := B1.out.size; omega))))
    clear hn6 hks hk6 hb6 hB7
    obtain ⟨W8, hW8⟩ : ∃ W, W = W7.alloc (.cells #[.slice a m c] 81) := ⟨_, rfl⟩
    have z8 : W8.heap.size = W7.heap.size + 1 := by rw [hW8]; simp
    have hb8 : Blk 83 W8 w1.heap.size [.slice a1 n1 c1, .slice a m c, .int .i64 ((0 : Nat) : Int)] := by rw [hW8]; exact hb7.alloc _
    have hc8 : W8.cell? ⟨W7.heap.size, 0, none⟩ = some (.slice a m c) := by rw [hW8]; simp
    have hp8 : PtsIn W8 (.slice a m c) E' := by rw [hW8]; exact hp7.below (new_below _ _)
    have hs8 : SetIn W8 (.agg #[.slice a1 n1 c1]) L := by rw [hW8]; exact hs7.below (new_below _ _)
    have B8 : Hid (Below w1.heap.size w1 W8) := Lib.hid (by
      have h1 := new_below W7 (.cells #[.slice a m c] 81)
      rw [← hW8] at h1
      exact B6.out.trans ((B7.out.trans (h1.mono hz7)).mono (by omega)))
    rw [← hW8]
    clear hW8 hp7 hs7 hb7
    have hoff8 : Hid (∀ g off n' c', Value.slice a m c = .slice (some ⟨g, off, none⟩) n' c' → ¬ (g = w1.heap.size ∨ W8.heap.size ≤ g)) := Lib.hid (by
      intro g off n' c' he hg
      rcases hg with hg | hg
      · exact hoff.out g off n' c' he hg
      · rcases hp8.2 with ⟨hv, _⟩ | ⟨g', off', cap', hv, _, hlt, _⟩
        · rw [hv] at he; cases he
        · rw [hv] at he; cases he; omega)
    refine wpIn_rangeFunc_ownG rfl (by omega) (gf := 71) (lb := #[.pointer (some ⟨W7.heap.size, 0, none⟩)]) rfl trivial (enters_of Try.func71 (by kernel_rfl) rfl)
      (kids_each_stops 5 (by omega) W7.heap.size (.slice a m c) E' (by omega) W8 (by omega) hc8 hp8) (fun h k => h.trans k) (fun W l o o' _ h h1 _ => kpS_book W l o o' h h1) (Below.refl _ _) (fun _ => rfl)
      (fun (pre : List { p : Ent // p ∈ E' }) W => (Blk 83 W w1.heap.size [.slice a1 n1 c1, .slice a m c, .int .i64 ((sumZ zf (pre.map Subtype.val) : Nat) : Int)] ∧ pre.length ≤ E'.length) ∧ Only (fun k => k = w1.heap.size ∨ W8.heap.size ≤ k) W8 W)
      (fun _ _ _ => False)
      (OwnFrom.and (OwnFrom.and (Own.from (blk_own 83 w1.heap.size (fun pre : List { p : Ent // p ∈ E' } => [.slice a1 n1 c1, .slice a m c, .int .i64 ((sumZ zf (pre.map Subtype.val) : Nat) : Int)])) _) (ownFrom_pure _ (fun pre : List { p : Ent // p ∈ E' } => pre.length ≤ E'.length))) (ownFrom_only12 (Nat.le_refl _) (fun k hk => .inr hk)))
      (fun _ _ _ _ _ hs _ _ => hs)
      ⟨⟨hb8, Nat.zero_le _⟩, Only.refl _ _⟩
      (fun y => { tmps := #[p, keyV k, q, undef, undef, undef, .pointer none, .pointer (some ⟨w1.heap.size, 0, none⟩), undef, ptrV y.1.2, p, .agg #[.slice a1 n1 c1, .slice a2 n2 c2, .int .i64 ((n - 1 : Nat) : Int)], q, .bool true, .pointer (some ⟨w1.heap.size, 1, none⟩), .agg #[.slice a2 n2 c2], keyV k, .agg #[.slice a m c], .pointer (some ⟨w1.heap.size, 1, none⟩), undef, undef, undef, undef, undef, undef, .pointer (some ⟨w1.heap.size, 2, none⟩), .func (.func 71) #[] #[.pointer (some ⟨W7.heap.size, 0, none⟩)], keyV y.1.1, ptrV y.1.2, undef, undef, undef, undef, undef, undef], defers := [] }) ?assign ?body ?done ?stop
    case assign =>
      intro l x W K hK
      gi_wp2
      exact hK
    case body =>
      rintro l pre y W ⟨⟨hbk, hpre⟩, hO⟩ hlt
      have ck := hbk.at (o := 2) rfl
      have fk := hbk.frozen 2
      obtain ⟨⟨Ly, Ey, hy⟩, hyb⟩ := HZ.out y.1 y.2
      have hsum := sumZ_le zf 100000 (pre.map Subtype.val) (fun q hq => by
        obtain ⟨r, _, rfl⟩ := List.mem_map.1 hq
        exact (HZ.out r.1 r.2).2)
      rw [List.length_map] at hsum
      have HW : Hid (Below w.heap.size w W) := Lib.hid (B1.out.trans ((B8.out.trans (hO.below (by omega) (fun k hk e => by omega))).mono B1.out.size))
      have SZ : Hid (∀ d, Calls Try.prog 63 #[ptrV y.1.2] (W.drewN d) fun e w' => e = .returned (.int .i64 (zf y.1.2 : Int)) ∧ W.drewN d = w') := Lib.hid fun d =>
        nd_Size _ Ly Ey _ _ (hy.below (below_draws HW.out d)) (by omega)
      have hs2 : Hid (sumZ zf ((pre ++ [y]).map Subtype.val) = sumZ zf (pre.map Subtype.val) + zf y.1.2) := Lib.hid (by rw [List.map_append]; exact sumZ_snoc _ _ _)
      have HB := Lib.hid hbk
      clear hbk hy
      gi_wp2_with fail
      gi_region_with (refine ⟨trivial, (callsIn_wide.2 (SZ.out _)).mono ?_⟩; rintro e w9 ⟨rfl, rfl⟩)
      all_goals
        rw [show ((sumZ zf (pre.map Subtype.val) : Nat) : Int) + ((zf y.1.2 : Nat) : Int) = ((sumZ zf (pre.map Subtype.val) + zf y.1.2 : Nat) : Int) by omega, show IntKind.i64.wrap ((sumZ zf (pre.map Subtype.val) + zf y.1.2 : Nat) : Int) = ((sumZ zf (pre.map Subtype.val) + zf y.1.2 : Nat) : Int) from IntWalk.i64_in _ (by omega)]
        refine ⟨keeps_drew _ _ _ _, kpS_drew hoff8.out _ _ _, ⟨?_, by simp; omega⟩, (hO.drewN _).setCell (p := ⟨w1.heap.size, 2, none⟩) (.inl (.inl rfl)) _⟩
        show Blk _ _ _ [_, _, Value.int .i64 ((sumZ zf ((pre ++ [y]).map Subtype.val) : Nat) : Int)]
        rw [hs2.out]
        exact (HB.out.drewN _).set 2 _
    case done =>
      rintro D ys W hD hys ⟨⟨hbk, _⟩, hO⟩ hK
      rw [show List.map Subtype.val ys = E' from hys] at hbk
      have HW : Hid (Below w.heap.size w W) := Lib.hid (B1.out.trans ((B8.out.trans (hO.below (by omega) (fun k hk e => by omega))).mono B1.out.size))
      gi_wp2
      refine ⟨by simp, .inl ⟨_, _, rfl, run_takeDeferred hK, ?_⟩⟩
      have hO2 := put_only (o := .deferred none) hO hD
      have hBf : Hid (Below w.heap.size w (W.putObj D (.deferred none))) := Lib.hid (B1.out.trans ((B8.out.trans (hO2.below (by omega) (fun k hk e => by omega))).mono B1.out.size))
      refine ⟨_, results_tmp rfl _ _ _, _, rfl, ⟨_, _, _, _, _, _, (blk_own 83 w1.heap.size (fun _ : Unit => [.slice a1 n1 c1, .slice a m c, .int .i64 ((sumZ zf E' : Nat) : Int)])).putObj (s := ()) _ hbk hK rfl, HS.out.below hBf.out, ?_, HO1.out, HO4.out, HSS.out _ B1.out.size⟩, hBf.out⟩
      obtain ⟨⟨s', hv, hs'⟩, hu'⟩ := HR.out
      exact ⟨⟨_, rfl, sliceK_only hp8 hO2 hoff8.out⟩, hu'⟩
    case stop =>
      rintro D c pre W _ _ h _
      exact h.elim
  · have hb := KB.out false (by simp [hne])
    have H3 := Lib.hid e3
    clear KB e3
    refine ⟨trivial, (callsIn_wide.2 hb).mono ?_⟩
    rintro e w3 ⟨rfl, hB3⟩
    have hb3 := hb2.below hB3 hb2.lt
    have k1 := hb3.at (o := 1) rfl
    have B3 := Lib.hid hB3
    have z3 := hB3.size
    clear hB3 hb
    gi_wp2_with fail
    refine ⟨trivial, (callsIn_wide.2 (kids_Put _ E k x w3 (hKW.out.below B3.out) (by omega))).mono ?_⟩
    rintro e w4 ⟨r, rfl, hr, hB4, ha⟩
    rw [← H3.out] at hr
    obtain ⟨a, m, c, rfl⟩ := hr.form
    have hoff : Hid (∀ g off n' c', Value.slice a m c = .slice (some ⟨g, off, none⟩) n' c' → g ≠ w1.heap.size) := Lib.hid (by
      obtain ⟨⟨s', hv, hs'⟩, _⟩ := HK.out.below B1.out
      cases hv
      exact apart_off hs' ha (Nat.le_refl _) (by omega))
    have HO4 : Hid (Off S (.slice a m c)) := Lib.hid (HO2.out.apart ha HSS.out (by have := B1.out.size; omega))
    have hb4 := hb3.below hB4 hb3.lt
    have k1 := hb4.at (o := 1) rfl
    have k2 := hb4.at (o := 2) rfl
    have f1 := hb4.frozen 1
    have f2 := hb4.frozen 2
    have HR := Lib.hid hr
    have HB4 := Lib.hid hb4
    have B4 := Lib.hid (below_step B3.out hB4)
    have z4 := hB4.size
    clear hr hb4 hb3 hB4 ha H3 B3
    gi_wp2_with fail
    obtain ⟨W6, hW6⟩ : ∃ W, W = (w4.setCell ⟨w1.heap.size, 1, none⟩ (.slice a m c)).setCell ⟨w1.heap.size, 2, none⟩ (.int .i64 0) := ⟨_, rfl⟩
    rw [← hW6]
    have hb6 : Blk 83 W6 w1.heap.size [.slice a1 n1 c1, .slice a m c, .int .i64 ((0 : Nat) : Int)] := by
      rw [hW6]; simpa using (HB4.out.set 1 (.slice a m c)).set 2 (.int .i64 0)
    have B6 : Hid (Below w1.heap.size w1 W6) := Lib.hid (by
      rw [hW6]
      exact ((below_step B2.out B4.out).setCell (p := ⟨w1.heap.size, 1, none⟩) (Nat.le_refl _) _).setCell (p := ⟨w1.heap.size, 2, none⟩) (Nat.le_refl _) _)
    have hk6 : KidsIn W6 (.agg #[.slice a m c]) E' := by
      obtain ⟨⟨s', hv, hs'⟩, hu'⟩ := HR.out
      cases hv
      rw [hW6]
      exact ⟨⟨_, rfl, sliceK_set (sliceK_set hs' hoff.out) hoff.out⟩, hu'⟩
    have z6 : W6.heap.size = w4.heap.size := by rw [hW6]; simp [World.setCell]
    clear hW6
    have hn6 : NdIs (fun _ => False) W6 w1.heap.size L E' 0 := ⟨_, _, _, _, _, _, hb6, HS.out.below (B1.out.trans (B6.out.mono B1.out.size)), hk6, fun _ _ _ _ _ h => h, fun _ _ _ _ _ h => h, fun h => h⟩
    obtain ⟨s, hks, hcs, hcall⟩ := nd_Kids (S := fun _ => False) (.pointer (some ⟨w1.heap.size, 0, none⟩)) L E' 1 W6 (.inr ⟨_, rfl, Nat.le_refl _, hn6⟩)
    obtain rfl : Value.slice a m c = s := by
      have h1 := hcs _ rfl
      rw [hb6.at (o := 1) rfl] at h1
      exact Option.some.inj h1
    refine ⟨trivial, (callsIn_wide.2 (hcall W6 (Below.refl _ _))).mono ?_⟩
    rintro e w7 ⟨W7, hB7, rfl, rfl⟩
    clear hcall hcs
    gi_wp2_with fail
    have B7 := Lib.hid hB7
    have hz7 := hB7.size
    have hb7 := hb6.below hB7 hb6.lt
    have hp7 : PtsIn W7 (.slice a m c) E' := by
      obtain ⟨⟨s', hv, hs'⟩, _⟩ := hks.below hB7
      cases hv
      exact hs'
    have hs7 := HS.out.below (B1.out.trans ((B6.out.mono B1.out.size).trans (hB7.mono (by have := B1.out.size; omega))))
    clear hn6 hks hk6 hb6 hB7
    obtain ⟨W8, hW8⟩ : ∃ W, W = W7.alloc (.cells #[.slice a m c] 81) := ⟨_, rfl⟩
    have z8 : W8.heap.size = W7.heap.size + 1 := by rw [hW8]; simp
    have hb8 : Blk 83 W8 w1.heap.size [.slice a1 n1 c1, .slice a m c, .int .i64 ((0 : Nat) : Int)] := by rw [hW8]; exact hb7.alloc _
    have hc8 : W8.cell? ⟨W7.heap.size, 0, none⟩ = some (.slice a m c) := by rw [hW8]; simp
    have hp8 : PtsIn W8 (.slice a m c) E' := by rw [hW8]; exact hp7.below (new_below _ _)
    have hs8 : SetIn W8 (.agg #[.slice a1 n1 c1]) L := by rw [hW8]; exact hs7.below (new_below _ _)
    have B8 : Hid (Below w1.heap.size w1 W8) := Lib.hid (by
      have h1 := new_below W7 (.cells #[.slice a m c] 81)
      rw [← hW8] at h1
      exact B6.out.trans ((B7.out.trans (h1.mono hz7)).mono (by omega)))
    rw [← hW8]
    clear hW8 hp7 hs7 hb7
    have hoff8 : Hid (∀ g off n' c', Value.slice a m c = .slice (some ⟨g, off, none⟩) n' c' → ¬ (g = w1.heap.size ∨ W8.heap.size ≤ g)) := Lib.hid (by
      intro g off n' c' he hg
      rcases hg with hg | hg
      · exact hoff.out g off n' c' he hg
      · rcases hp8.2 with ⟨hv, _⟩ | ⟨g', off', cap', hv, _, hlt, _⟩
        · rw [hv] at he; cases he
        · rw [hv] at he; cases he; omega)
    refine wpIn_rangeFunc_ownG rfl (by omega) (gf := 71) (lb := #[.pointer (some ⟨W7.heap.size, 0, none⟩)]) rfl trivial (enters_of Try.func71 (by kernel_rfl) rfl)
      (kids_each_stops 5 (by omega) W7.heap.size (.slice a m c) E' (by omega) W8 (by omega) hc8 hp8) (fun h k => h.trans k) (fun W l o o' _ h h1 _ => kpS_book W l o o' h h1) (Below.refl _ _) (fun _ => rfl)
      (fun (pre : List { p : Ent // p ∈ E' }) W => (Blk 83 W w1.heap.size [.slice a1 n1 c1, .slice a m c, .int .i64 ((sumZ zf (pre.map Subtype.val) : Nat) : Int)] ∧ pre.length ≤ E'.length) ∧ Only (fun k => k = w1.heap.size ∨ W8.heap.size ≤ k) W8 W)
      (fun _ _ _ => False)
      (OwnFrom.and (OwnFrom.and (Own.from (blk_own 83 w1.heap.size (fun pre : List { p : Ent // p ∈ E' } => [.slice a1 n1 c1, .slice a m c, .int .i64 ((sumZ zf (pre.map Subtype.val) : Nat) : Int)])) _) (ownFrom_pure _ (fun pre : List { p : Ent // p ∈ E' } => pre.length ≤ E'.length))) (ownFrom_only12 (Nat.le_refl _) (fun k hk => .inr hk)))
      (fun _ _ _ _ _ hs _ _ => hs)
      ⟨⟨hb8, Nat.zero_le _⟩, Only.refl _ _⟩
      (fun y => { tmps := #[p, keyV k, ptrV x, undef, undef, undef, .pointer none, .pointer (some ⟨w1.heap.size, 0, none⟩), undef, ptrV y.1.2, p, .agg #[.slice a1 n1 c1, .slice a2 n2 c2, .int .i64 ((n - 1 : Nat) : Int)], ptrV x, .bool false, undef, undef, undef, undef, undef, .pointer (some ⟨w1.heap.size, 1, none⟩), .agg #[.slice a2 n2 c2], keyV k, ptrV x, .agg #[.slice a m c], .pointer (some ⟨w1.heap.size, 1, none⟩), .pointer (some ⟨w1.heap.size, 2, none⟩), .func (.func 71) #[] #[.pointer (some ⟨W7.heap.size, 0, none⟩)], keyV y.1.1, ptrV y.1.2, undef, undef, undef, undef, undef, undef], defers := [] }) ?assign ?body ?done ?stop
    case assign =>
      intro l x W K hK
      gi_wp2
      exact hK
    case body =>
      rintro l pre y W ⟨⟨hbk, hpre⟩, hO⟩ hlt
      have ck := hbk.at (o := 2) rfl
      have fk := hbk.frozen 2
      obtain ⟨⟨Ly, Ey, hy⟩, hyb⟩ := HZ.out y.1 y.2
      have hsum := sumZ_le zf 100000 (pre.map Subtype.val) (fun q hq => by
        obtain ⟨r, _, rfl⟩ := List.mem_map.1 hq
        exact (HZ.out r.1 r.2).2)
      rw [List.length_map] at hsum
      have HW : Hid (Below w.heap.size w W) := Lib.hid (B1.out.trans ((B8.out.trans (hO.below (by omega) (fun k hk e => by omega))).mono B1.out.size))
      have SZ : Hid (∀ d, Calls Try.prog 63 #[ptrV y.1.2] (W.drewN d) fun e w' => e = .returned (.int .i64 (zf y.1.2 : Int)) ∧ W.drewN d = w') := Lib.hid fun d =>
        nd_Size _ Ly Ey _ _ (hy.below (below_draws HW.out d)) (by omega)
      have hs2 : Hid (sumZ zf ((pre ++ [y]).map Subtype.val) = sumZ zf (pre.map Subtype.val) + zf y.1.2) := Lib.hid (by rw [List.map_append]; exact sumZ_snoc _ _ _)
      have HB := Lib.hid hbk
      clear hbk hy
      gi_wp2_with fail
      gi_region_with (refine ⟨trivial, (callsIn_wide.2 (SZ.out _)).mono ?_⟩; rintro e w9 ⟨rfl, rfl⟩)
      all_goals
        rw [show ((sumZ zf (pre.map Subtype.val) : Nat) : Int) + ((zf y.1.2 : Nat) : Int) = ((sumZ zf (pre.map Subtype.val) + zf y.1.2 : Nat) : Int) by omega, show IntKind.i64.wrap ((sumZ zf (pre.map Subtype.val) + zf y.1.2 : Nat) : Int) = ((sumZ zf (pre.map Subtype.val) + zf y.1.2 : Nat) : Int) from IntWalk.i64_in _ (by omega)]
        refine ⟨keeps_drew _ _ _ _, kpS_drew hoff8.out _ _ _, ⟨?_, by simp; omega⟩, (hO.drewN _).setCell (p := ⟨w1.heap.size, 2, none⟩) (.inl (.inl rfl)) _⟩
        show Blk _ _ _ [_, _, Value.int .i64 ((sumZ zf ((pre ++ [y]).map Subtype.val) : Nat) : Int)]
        rw [hs2.out]
        exact (HB.out.drewN _).set 2 _
    case done =>
      rintro D ys W hD hys ⟨⟨hbk, _⟩, hO⟩ hK
      rw [show List.map Subtype.val ys = E' from hys] at hbk
      have HW : Hid (Below w.heap.size w W) := Lib.hid (B1.out.trans ((B8.out.trans (hO.below (by omega) (fun k hk e => by omega))).mono B1.out.size))
      gi_wp2
      refine ⟨by simp, .inl ⟨_, _, rfl, run_takeDeferred hK, ?_⟩⟩
      have hO2 := put_only (o := .deferred none) hO hD
      have hBf : Hid (Below w.heap.size w (W.putObj D (.deferred none))) := Lib.hid (B1.out.trans ((B8.out.trans (hO2.below (by omega) (fun k hk e => by omega))).mono B1.out.size))
      refine ⟨_, results_tmp rfl _ _ _, _, rfl, ⟨_, _, _, _, _, _, (blk_own 83 w1.heap.size (fun _ : Unit => [.slice a1 n1 c1, .slice a m c, .int .i64 ((sumZ zf E' : Nat) : Int)])).putObj (s := ()) _ hbk hK rfl, HS.out.below hBf.out, ?_, HO1.out, HO4.out, HSS.out _ B1.out.size⟩, hBf.out⟩
      obtain ⟨⟨s', hv, hs'⟩, hu'⟩ := HR.out
      exact ⟨⟨_, rfl, sliceK_only hp8 hO2 hoff8.out⟩, hu'⟩
    case stop =>
      rintro D c pre W _ _ h _
      exact h.elim

/-- As layers 12 and 13 take it. -/
theorem nd_WithKid {S : Nat → Prop} (p q : Value) (L Lq : List Int) (E Eq : List Ent) (n nq : Nat) (k : Key) (w : World) (hS : ∀ i, w.heap.size ≤ i → ¬ S i) (h : PIs S w p L E n) (hq : PIs S w q Lq Eq nq) (hbig : E.length ≤ 10000) (E' : List Ent)
    (hE' : (Lq = [] ∧ Eq = [] ∧ E' = dropE k E) ∨ (¬ (Lq = [] ∧ Eq = []) ∧ ∃ x, q = ptrV x ∧ E' = putE k x E)) (zf : Int → Nat) (hz : ∀ p ∈ E', (∃ L E, PIs S w (ptrV p.2) L E (zf p.2)) ∧ zf p.2 ≤ 10000) :
    Calls Try.prog 42 #[p, keyV k, q] w fun e w' => ∃ b, e = .returned (.pointer (some ⟨b, 0, none⟩)) ∧ NdIs S w' b L E' (sumZ zf E') ∧ Below w.heap.size w w' :=
  nd_WithKid0 p q L Lq E Eq n nq k w hS h hq (by omega) E' hE' zf fun p hp => ⟨(hz p hp).1, by have := (hz p hp).2; omega⟩
end Go.Proofs.Ytabgedmocdjkcaa
