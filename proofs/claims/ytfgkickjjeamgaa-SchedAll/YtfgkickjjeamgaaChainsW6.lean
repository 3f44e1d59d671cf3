/- Layer 6: threads of instructions as steps: the walk. -/
import Derived.Test.YtfgkickjjeamgaaChains6
namespace Go.Proofs.Ytfgkickjjeamgaa
open Go.RowKit

theorem insD_wide {K K' : Nat → Prop} {Bw : Nat} {d : Ins} {v : Value} {w : World} (h : insD K Bw d v w) (hK : ∀ k, K k → K' k) : insD K' Bw d v w := by
  obtain ⟨p0, p1, p2, p3, b, off, n, cap, b', off', m, c, e, h⟩ := h
  exact ⟨p0, p1, p2, p3, b, off, n, cap, b', off', m, c, e, hK _ h.k0, hK _ h.k1, hK _ h.k2, hK _ h.k3, hK _ h.kb, hK _ h.kb', h.c0, h.c1, h.c2, h.c3, h.tn, h.cb, h.im, h.ck, h.cx⟩
theorem StepIs.more {K K' : Nat → Prop} {Bw : Nat} {C : Nat → Prop} {w : World} {v : Value} {ds : List Ins} (h : StepIs K (insD K Bw) C w v ds) (hK : ∀ k, K k → K' k) : StepIs K' (insD K' Bw) C w v ds := by
  rcases h with h | ⟨h0, B, Dk, o, cap, h1, h2⟩
  · exact .inl h
  · refine .inr ⟨h0, B, Dk, o, cap, h1, h2.cb.imp id (hK _), hK _ h2.cd, h2.blk, h2.le, fun i d hd => ?_⟩
    obtain ⟨v, hv, hi⟩ := h2.at_ i d hd
    exact ⟨v, hv, insD_wide hi hK⟩

/-- While the threads are made. -/
structure OuterSt (w0 : World) (Bw p0 p3 : Nat) (a : Option Addr) (c : Nat) (T : List (List (Int × Int))) (t Pt : Nat) (o : Value) (vs : List Value) (wr : World) : Prop where
  below : Below w0.heap.size w0 wr
  b0 : Blk 26 wr p0 [.pointer (some ⟨Bw, 0, none⟩)]
  b3 : Blk 23 wr p3 [.slice a T.length c]
  bt : Blk 3 wr Pt [numV t]
  row : wr.ownsRow w0.heap.size 45 1 o t vs
  lo0 : w0.heap.size ≤ p0
  lo3 : w0.heap.size ≤ p3
  lot : w0.heap.size ≤ Pt
  ex : ∃ Kt : Nat → Prop, (∀ k, k < w0.heap.size → k ≠ Bw → Kt k) ∧ Kt p0 ∧ Kt p3 ∧ (∀ k, Kt k → k < wr.heap.size ∧ k ≠ Bw ∧ k ≠ Pt ∧ o.ownBlock ≠ some k) ∧
    ∀ (j : Nat) v l, vs[j]? = some v → T[j]? = some l → StepIs Kt (insD Kt Bw) (fun _ => False) wr v (deedsOf j l)

/-- One thread more. -/
theorem OuterSt.more {w0 : World} {Bw p0 p3 : Nat} {a : Option Addr} {c : Nat} {T : List (List (Int × Int))} {t Pt : Nat} {o : Value} {vs : List Value} {wr : World} (h : OuterSt w0 Bw p0 p3 a c T t Pt o vs wr) (hB : Bw < w0.heap.size) {l : List (Int × Int)} (hl : T[t]? = some l)
    (hT : ThrIn (fun k => k < w0.heap.size ∧ k ≠ Bw) w0 a T) {Pi : Nat} {lo : Value} {vals : List Value} {wi : World} (hI : InnerSt wr p0 Pt p3 Pi l.length lo vals wi)
    {w1 : World} {a2 : Option Addr} {c2 : Nat} (hB1 : Below wi.heap.size wi w1) (hown1 : w1.ownsRow wi.heap.size 24 1 (.slice a2 l.length c2) l.length vals)
    {tmp : Obj} {g' cap' : Nat} {w5 : World} (hown : w5.ownsRow w0.heap.size 45 1 (.slice (some ⟨g', 0, none⟩) (t + 1) cap') (t + 1) (vs ++ [stepV l.length w1.heap.size]))
    (hgrow : ((w1.alloc (.cells #[.slice a2 l.length c2] 53)).alloc tmp).grownBy w5 o.ownBlock) (hlie : o.ownBlock = some g' ∨ g' = w1.heap.size + 1 + 1) :
    OuterSt w0 Bw p0 p3 a c T (t + 1) w5.heap.size (.slice (some ⟨g', 0, none⟩) (t + 1) cap') (vs ++ [stepV l.length w1.heap.size]) (w5.alloc (.cells #[.int .i64 ((t : Int) + 1)] 3)) := by
  obtain ⟨Kt, k1, k2, k3, k4, k5⟩ := h.ex
  have hog := grown_only hgrow
  have z1 := h.below.size
  have z2 := hI.below.size
  have z3 := hB1.size
  have z4 := hog.size
  simp only [World.alloc] at z4
  have z4' : w1.heap.size + 1 + 1 ≤ w5.heap.size := by simpa using z4
  have hvl : vals.length = l.length := by have := hI.row.1; simpa using this
  have hvs : vs.length = t := by have := h.row.1; simpa using this
  have hoo : ∀ k, o.ownBlock = some k → k < wr.heap.size := fun k hk => (h.row.lt k hk).2
  -- from wr on nothing that lay has turned but the row of steps
  have hw1 : Only (fun _ => False) wr w1 := (Only.of_below hI.below _).trans (Only.of_below hB1 _)
  have hwc : Only (fun _ => False) w1 ((w1.alloc (.cells #[.slice a2 l.length c2] 53)).alloc tmp) := ((Only.refl _ _).alloc _).alloc _
  have hw5 : Only (fun k => o.ownBlock = some k) (w1.alloc (.cells #[.slice a2 l.length c2] 53)) (w5.alloc (.cells #[.int .i64 ((t : Int) + 1)] 3)) := (((Only.refl (fun k => o.ownBlock = some k) (w1.alloc (.cells #[.slice a2 l.length c2] 53))).alloc tmp).trans hog).alloc _
  have hall : Only (fun k => o.ownBlock = some k) wr (w5.alloc (.cells #[.int .i64 ((t : Int) + 1)] 3)) := ((hw1.mono fun _ _ h => h.elim).trans (((Only.refl (fun k => o.ownBlock = some k) w1).alloc (.cells #[.slice a2 l.length c2] 53)))).trans hw5
  have hPt : ∀ k, o.ownBlock = some k → k ≠ Pt := fun k hk e => by subst e; exact blk_apart h.bt h.row hk (by decide) rfl
  have hPlt := h.bt.lt
  have hlot := h.lot
  have hg : ∀ k, k < wr.heap.size → o.ownBlock ≠ some k → g' ≠ k := fun k hk hne e => by
    rcases hlie with e1 | e1
    · exact hne (e ▸ e1)
    · omega
  have hg2 : ∀ k, wr.heap.size ≤ k → k ≤ w1.heap.size → g' ≠ k := fun k hk hk' e => by
    rcases hlie with e1 | e1
    · have := hoo _ e1; omega
    · omega
  have hKK : ∀ k, Kt k → (Kt k ∨ k = Pt ∨ (wr.heap.size ≤ k ∧ k < w5.heap.size ∧ g' ≠ k)) := fun _ h => .inl h
  have hno : ∀ k, o.ownBlock = some k → ¬ (Kt k ∨ k = Pt ∨ (wr.heap.size ≤ k ∧ k < w5.heap.size ∧ g' ≠ k)) := fun k hk hK => by
    rcases hK with hK | hK | hK
    · exact (k4 k hK).2.2.2 hk
    · exact hPt k hk hK
    · have := hoo k hk; omega
  have hin : ∀ k, wr.heap.size ≤ k → k ≤ w1.heap.size → (Kt k ∨ k = Pt ∨ (wr.heap.size ≤ k ∧ k < w5.heap.size ∧ g' ≠ k)) := fun k h1 h2 => .inr (.inr ⟨h1, by omega, hg2 k h1 h2⟩)
  refine ⟨?_, h.b0.only hall ?_, h.b3.only hall ?_, ?_, hown.alloc _, h.lo0, h.lo3, by omega, fun k => Kt k ∨ k = Pt ∨ (wr.heap.size ≤ k ∧ k < w5.heap.size ∧ g' ≠ k), fun k h1 h2 => .inl (k1 k h1 h2), .inl k2, .inl k3, fun k hK => ?_, fun j v l' hv hl' => ?_⟩
  · exact hall.below_step z1 h.below (fun i hi e => by have := (h.row.lt i e).1; omega)
  · exact fun e => blk_apart h.b0 h.row e (by decide) rfl
  · exact fun e => blk_apart h.b3 h.row e (by decide) rfl
  · have := Blk.new (t := 3) (W := w5) (l := [numV ((t : Int) + 1)])
    exact this
  · have hs5 : (w5.alloc (.cells #[.int .i64 ((t : Int) + 1)] 3)).heap.size = w5.heap.size + 1 := by simp
    have hb2 : ∀ {x : Nat}, g' ≠ x → (Value.slice (some ⟨g', 0, none⟩) (t + 1) cap').ownBlock ≠ some x := fun hne e => hne (by simpa [Value.ownBlock] using e)
    rcases hK with hK | rfl | hK
    · have := k4 k hK
      exact ⟨by omega, this.2.1, by omega, hb2 (hg k this.1 this.2.2.2)⟩
    · exact ⟨by omega, by omega, by omega, hb2 (hg k hPlt (fun e => hPt k e rfl))⟩
    · exact ⟨by omega, by omega, by omega, hb2 hK.2.2⟩
  · by_cases hj : j < t
    · rw [List.getElem?_append_left (by omega)] at hv
      exact ((k5 j v l' hv hl').frame (ins_deeds Kt Bw) (fun _ h => h) (hall.mono fun k _ hk => ⟨id, fun hK => (k4 k hK).2.2.2 hk⟩)).more hKK
    · obtain rfl : j = t := by
        have := (List.getElem?_eq_some_iff.1 hv).1
        simp at this; omega
      rw [hl] at hl'
      cases hl'
      rw [List.getElem?_append_right (by omega), hvs] at hv
      simp at hv
      subst hv
      have hst : StepIs (fun k => Kt k ∨ k = Pt ∨ (wr.heap.size ≤ k ∧ k < w5.heap.size ∧ g' ≠ k)) (insD (fun k => Kt k ∨ k = Pt ∨ (wr.heap.size ≤ k ∧ k < w5.heap.size ∧ g' ≠ k)) Bw) (fun _ => False) (w1.alloc (.cells #[.slice a2 l.length c2] 53)) (stepV l.length w1.heap.size) (deedsOf j l) := by
        refine stepIs_chain hown1 (deedsOf_len j l) (.inr (hin _ (by omega) (Nat.le_refl _))) (fun k h1 h2 => hin k (by omega) (by omega)) (fun i d v hd hv => ?_)
        obtain ⟨p, hp, rfl⟩ := deedsOf_at hd
        have hil : i < l.length := (List.getElem?_eq_some_iff.1 hp).1
        obtain ⟨q2, e1, e2, e3, e4⟩ := hI.each i hil
        rw [hv] at e1
        cases e1
        obtain ⟨b, off, a', c', r1, r2, r3, r4⟩ := hT j l hl
        obtain ⟨b', off', s1, s2, s3, s4⟩ := r4 i p hp
        subst r1 s1
        have oi : Only (fun _ => False) wi (w1.alloc (.cells #[.slice a2 l.length c2] 53)) := (Only.of_below hB1 _).alloc _
        have or' : Only (fun _ => False) wr (w1.alloc (.cells #[.slice a2 l.length c2] 53)) := hw1.alloc _
        have o0 : Below w0.heap.size w0 (w1.alloc (.cells #[.slice a2 l.length c2] 53)) := or'.below_step z1 h.below (fun _ _ => id)
        have hq2 : q2 < w1.heap.size := by have := e2.lt; omega
        have hTl : j < T.length := (List.getElem?_eq_some_iff.1 hl).1
        exact ⟨p0, Pt, q2, p3, b, off, T.length, c, b', off', l.length, c', rfl, .inl k2, .inr (.inl rfl), hin q2 e3 (by omega), .inl k3, .inl (k1 b r2.1 r2.2), .inl (k1 b' s2.1 s2.2), (h.b0.only or' id).at (o := 0) rfl, (h.bt.only or' id).at (o := 0) rfl, (e2.only oi id).at (o := 0) rfl, (h.b3.only or' id).at (o := 0) rfl, hTl, (o0.cell (p := ⟨b, off + j, none⟩) r2.1).trans r3, hil, (o0.cell (p := ⟨b', off' + i * 2, none⟩) s2.1).trans s3, (o0.cell (p := ⟨b', off' + i * 2 + 1, none⟩) s2.1).trans s4⟩
      exact hst.frame (ins_deeds _ Bw) (fun _ h => h) (hw5.mono fun k _ hk => ⟨id, hno k hk⟩)

theorem chains_any {w : World} {Bw : Nat} {a : Option Addr} {c : Nat} {T : List (List (Int × Int))} (hT : ThrIn (fun k => k < w.heap.size ∧ k ≠ Bw) w a T) (hB : Bw < w.heap.size) (hn : T.length ≤ 1000) (hl : ∀ l ∈ T, l.length ≤ 1000) :
    Calls Try.prog 9 #[.slice a T.length c, .pointer (some ⟨Bw, 0, none⟩)] w fun e w' => ∃ v vs, e = .returned v ∧ w'.ownsRow w.heap.size 45 1 v T.length vs ∧ Below w.heap.size w w' ∧
      ∀ K : Nat → Prop, (∀ k, k < w'.heap.size → k ≠ Bw → v.ownBlock ≠ some k → K k) → ∀ (j : Nat) v l, vs[j]? = some v → T[j]? = some l → StepIs K (insD K Bw) (fun _ => False) w' v (deedsOf j l) := by
  have H := Lib.hid hT
  have HL := Lib.hid hl
  clear hT hl
  have hmf := run_makeFunc
  go_enter Try.func9, Try.ntmps9
  go_wp2_with fail
  have hst : OuterSt w Bw (w.heap.size + 1) w.heap.size a c T 0 (w.heap.size + 1 + 1) (.slice none 0 0) [] (((w.alloc (.cells #[.slice a T.length c] 23)).alloc (.cells #[.pointer (some ⟨Bw, 0, none⟩)] 26)).alloc (.cells #[.int .i64 0] 3)) := by
    have e1 : Blk 23 (w.alloc (.cells #[.slice a T.length c] 23)) w.heap.size [.slice a T.length c] := Blk.new (l := [.slice a T.length c])
    have e2 : Blk 26 ((w.alloc (.cells #[.slice a T.length c] 23)).alloc (.cells #[.pointer (some ⟨Bw, 0, none⟩)] 26)) (w.heap.size + 1) [.pointer (some ⟨Bw, 0, none⟩)] := by
      have := Blk.new (t := 26) (W := w.alloc (.cells #[.slice a T.length c] 23)) (l := [.pointer (some ⟨Bw, 0, none⟩)])
      simpa using this
    have e3 : Blk 3 (((w.alloc (.cells #[.slice a T.length c] 23)).alloc (.cells #[.pointer (some ⟨Bw, 0, none⟩)] 26)).alloc (.cells #[.int .i64 0] 3)) (w.heap.size + 1 + 1) [numV 0] := by
      have := Blk.new (t := 3) (W := (w.alloc (.cells #[.slice a T.length c] 23)).alloc (.cells #[.pointer (some ⟨Bw, 0, none⟩)] 26)) (l := [numV 0])
      simpa using this
    refine ⟨(((Below.refl w.heap.size w).alloc (Nat.le_refl _) _).alloc (by simp) _).alloc (by simp; omega) _, e2.alloc _, (e1.alloc _).alloc _, e3, World.ownsRow_nil _ _ _ _, by omega, by omega, by omega, fun k => k < w.heap.size + 1 + 1 ∧ k ≠ Bw, fun k h1 h2 => ⟨by omega, h2⟩, ⟨by omega, by omega⟩, ⟨by omega, by omega⟩, fun k hk => ⟨by simp; omega, hk.2, by omega, by simp [Value.ownBlock]⟩, fun j v l hv => by simp at hv⟩
  have ST := Lib.hid hst
  clear hst
  obtain ⟨i0, hi, hz0, hz1, hz2⟩ := info_at infoFunc
  obtain ⟨i1, ki, kz0, kz1, kz2⟩ := info_at infoStep
  go_loopg [5, 6, 7, 8] T.length (fun g o tp _ _ wr => ∃ (t Pt : Nat) (vs : List Value), t + g = T.length ∧ tp = .pointer (some ⟨Pt, 0, none⟩) ∧ Hid (OuterSt w Bw (w.heap.size + 1) w.heap.size a c T t Pt o vs wr))
  case atStart => exact ⟨0, _, [], by omega, rfl, ST⟩
  case round =>
    clear ST
    obtain ⟨t, Pt, vs, hg, rfl, ST⟩ := hrel
    have ct := ST.out.bt.at (o := 0) rfl
    have c3 := ST.out.b3.at (o := 0) rfl
    by_cases hlt : t < T.length
    · have hTt := List.getElem?_eq_getElem hlt
      have hll := HL.out T[t] (List.getElem_mem hlt)
      obtain ⟨b, off, a', c', rfl, hQ, hcell, _⟩ := H.out t _ hTt
      have hcell := (ST.out.below.cell (p := ⟨b, off + t, none⟩) hQ.1).trans hcell
      have hbr : b < wr.heap.size := Nat.lt_of_lt_of_le hQ.1 ST.out.below.size
      have TT := Lib.hid hTt
      generalize T[t] = l at *
      clear hTt
      go_wp2_with fail
      go_loopg [7, 8] l.length (fun g o ip wi => ∃ (k Pi : Nat) (vals : List Value), k + g = l.length ∧ ip = .pointer (some ⟨Pi, 0, none⟩) ∧ Hid (InnerSt wr (w.heap.size + 1) Pt w.heap.size Pi k o vals wi))
      case atStart =>
        refine ⟨0, wr.heap.size, [], by omega, rfl, Lib.hid ⟨?_, World.ownsRow_nil _ _ _ _, fun j hj => by omega, (Below.refl _ _).alloc (Nat.le_refl _) _, Nat.le_refl _⟩⟩
        exact Blk.new (l := [numV 0])
      case round =>
        obtain ⟨k, Pi, vals, hgk, rfl, SI⟩ := hrel
        have d3 := (ST.out.b3.below SI.out.below ST.out.b3.lt).at (o := 0) rfl
        have dt := (ST.out.bt.below SI.out.below ST.out.bt.lt).at (o := 0) rfl
        have di := SI.out.box.at (o := 0) rfl
        have dc := (SI.out.below.cell (p := ⟨b, off + t, none⟩) hbr).trans hcell
        by_cases hlk : k < l.length
        · go_wp2_with fail
          go_quiet (fail)
          have S2 := Lib.hid (SI.out.drewN nq)
          clear SI d3 dt di dc
          generalize wr.drewN nq = wq at *
          have hrow := S2.out.row
          have hqs := S2.out.below.size
          go_wp2_with (at_builtin; refine wpList_append_own _ rfl _ _ 53 rfl _ 24 i0 .nilFunc 1 8 Try.underlying53 hi hz0 hz1 hz2 rfl (by decide) _ _ _ rfl (hrow.alloc _) ⟨wq.heap.size, 0, none⟩ 1 1 [cloV (w.heap.size + 1) Pt Pi w.heap.size] rfl rfl (cell_one_new _ _ _) (by simp [Value.oneCell']) (by simp only [maxLen]; omega) (by omega) (by simp; omega) ?_; intro v' w2 hown' hgrow _; obtain ⟨g', cap', rfl⟩ := ownsRow_succ hown'; have dd := ((S2.out.box.alloc _).only (grown_only hgrow) (fun e => blk_apart S2.out.box hrow e (by decide) rfl)).at (o := 0) rfl)
          go_roundg (l.length - (k + 1))
          case measure => omega
          case rel => exact ⟨k + 1, _, _, by omega, rfl, Lib.hid (S2.out.more hown' hgrow)⟩
        · obtain rfl : k = l.length := by omega
          go_wp2_with fail
          go_quiet (fail)
          have S2 := Lib.hid (SI.out.drewN nq)
          clear SI d3 dt di dc
          generalize wr.drewN nq = wq at *
          have hvl : vals.length = l.length := by have := S2.out.row.1; simpa using this
          have hall : ∀ v ∈ vals, ∃ q2, v = cloV (w.heap.size + 1) Pt q2 w.heap.size := fun v hv => by
            obtain ⟨j, hj, rfl⟩ := List.mem_iff_getElem.1 hv
            obtain ⟨q2, e1, _⟩ := S2.out.each j (by omega)
            rw [List.getElem?_eq_getElem hj] at e1
            exact ⟨q2, Option.some.inj e1⟩
          have hfilt : vals.filter notNil = vals := List.filter_eq_self.2 fun v hv => by
            obtain ⟨q2, rfl⟩ := hall v hv
            rfl
          have hsl : SliceK wq 1 u7 vals.length vals := by rw [hvl]; exact SliceK.of_own S2.out.row
          have CH := sched_Chain hsl (fun v hv => by obtain ⟨q2, rfl⟩ := hall v hv; exact .inr ⟨_, _, rfl⟩) (by omega)
          rw [hfilt, hvl] at CH
          have CC := Lib.hid CH
          clear CH hsl hfilt hall
          go_wp2_with fail
          refine CC.out.mono ?_
          clear CC
          rintro e w3 ⟨w1, a2, c2, rfl, hw3, hB1, hown1⟩
          have o3 := ((Only.of_below S2.out.below (fun _ => False)).trans (Only.of_below hB1 _)).alloc (.cells #[.slice a2 l.length c2] 53)
          rw [← hw3] at o3
          have hrow3 := own_only ST.out.row o3 (fun _ _ => id)
          have ct3 := ST.out.bt.only o3 id
          have hb3 : w.heap.size ≤ w3.heap.size := Nat.le_trans ST.out.below.size o3.size
          have hvs3 : vs.length = t := by have := ST.out.row.1; simpa using this
          have FIN : Hid (∀ (tmp : Obj) (g' cap' : Nat) (w5 : World), w5.ownsRow w.heap.size 45 1 (.slice (some ⟨g', 0, none⟩) (t + 1) cap') (t + 1) (vs ++ [stepV l.length w1.heap.size]) → (w3.alloc tmp).grownBy w5 u5.ownBlock → (u5.ownBlock = some g' ∨ g' = w3.heap.size + 1) →
              OuterSt w Bw (w.heap.size + 1) w.heap.size (some ⟨b, off, none⟩) c T (t + 1) w5.heap.size (.slice (some ⟨g', 0, none⟩) (t + 1) cap') (vs ++ [stepV l.length w1.heap.size]) (w5.alloc (.cells #[.int .i64 ((t : Int) + 1)] 3))) := Lib.hid (by
            subst hw3
            intro tmp g' cap' w5 k1 k2 k3
            exact ST.out.more hB TT.out H.out S2.out hB1 hown1 k1 k2 (by simpa using k3))
          clear hw3 hB1 hown1 S2 ST o3
          have hsv : stepV l.length w1.heap.size = .nilFunc ∨ ∃ x, stepV l.length w1.heap.size = fnV 24 x := by
            unfold stepV
            split
            · exact .inl rfl
            · exact .inr ⟨_, rfl⟩
          generalize stepV l.length w1.heap.size = sv at *
          rcases hsv with rfl | ⟨x, rfl⟩
          · go_wp2_with (at_builtin; refine wpList_append_lies _ rfl _ _ 35 rfl w.heap.size 45 i1 .nilFunc 1 8 Try.underlying35 ki kz0 kz1 kz2 rfl (by decide) _ _ _ rfl (hrow3.alloc _) ⟨w3.heap.size, 0, none⟩ 1 1 [.nilFunc] rfl rfl (cell_one_new _ _ _) (by simp [Value.oneCell']) (by decide) (by simp only [maxLen]; omega) (by omega) (by simp; omega) (w3.heap.size + 1) (by simp) ?_; intro g' cap' w5 hown hgrow hlie _; have dd := ((ct3.alloc _).only (grown_only hgrow) (fun e => blk_apart ct3 hrow3 e (by decide) rfl)).at (o := 0) rfl)
            go_roundg (T.length - (t + 1))
            case measure => omega
            case rel => exact ⟨t + 1, _, _, by omega, rfl, Lib.hid (FIN.out _ _ _ _ hown hgrow hlie)⟩
          · go_wp2_with (at_builtin; refine wpList_append_lies _ rfl _ _ 35 rfl w.heap.size 45 i1 .nilFunc 1 8 Try.underlying35 ki kz0 kz1 kz2 rfl (by decide) _ _ _ rfl (hrow3.alloc _) ⟨w3.heap.size, 0, none⟩ 1 1 [fnV 24 x] rfl rfl (cell_one_new _ _ _) (by simp [Value.oneCell']) (by decide) (by simp only [maxLen]; omega) (by omega) (by simp; omega) (w3.heap.size + 1) (by simp) ?_; intro g' cap' w5 hown hgrow hlie _; have dd := ((ct3.alloc _).only (grown_only hgrow) (fun e => blk_apart ct3 hrow3 e (by decide) rfl)).at (o := 0) rfl)
            go_roundg (T.length - (t + 1))
            case measure => omega
            case rel => exact ⟨t + 1, _, _, by omega, rfl, Lib.hid (FIN.out _ _ _ _ hown hgrow hlie)⟩
    · obtain rfl : t = T.length := by omega
      obtain ⟨Kt, k1, k2, k3, k4, k5⟩ := ST.out.ex
      have E := Lib.hid (And.intro ST.out.row (And.intro ST.out.below (And.intro k4 k5)))
      clear k1 k2 k3 k4 k5
      go_wp2
      go_ret
      exact ⟨_, vs, rfl, E.out.1, E.out.2.1, fun K hK j v l hv hl => (E.out.2.2.2 j v l hv hl).more (fun k hk => hK k (E.out.2.2.1 k hk).1 (E.out.2.2.1 k hk).2.1 (E.out.2.2.1 k hk).2.2.2)⟩

end Go.Proofs.Ytfgkickjjeamgaa
