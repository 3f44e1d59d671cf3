/- Layer 6: the document's world of instructions (bellmanref06): Do. -/
import Derived.Test.YtfgkickjjeamgaaCall6
import Derived.Deep.RegionLaw
import Derived.Deep.CutBlock
import Derived.Deep.CutRange
import Derived.StillTailTactics
import Derived.BigQuiet
import Derived.Deep.QuietTactic
namespace Go.Proofs.Ytfgkickjjeamgaa
open Go.RowKit

/-- The document's world: a number, four locks, what was done. -/
structure WS where
  n : Int
  l0 : Int
  l1 : Int
  l2 : Int
  l3 : Int
  done : List (Int × Int × Int)
def WS.lock (s : WS) (k : Nat) : Int := if k = 0 then s.l0 else if k = 1 then s.l1 else if k = 2 then s.l2 else s.l3
def WS.setLock (s : WS) (k : Nat) (v : Int) : WS := if k = 0 then { s with l0 := v } else if k = 1 then { s with l1 := v } else if k = 2 then { s with l2 := v } else { s with l3 := v }
def WS.push (s : WS) (t i : Int) : WS := { s with done := s.done ++ [(t, i, s.n)] }
/-- What an instruction does ahead of its mark; none: it isn't done. -/
def WS.pre (s : WS) (t kind x : Int) : Option WS :=
  if kind = 0 then some { s with n := wrap64 (s.n + x.tmod 1000) }
  else if kind = 1 then (if s.n < x then none else some s)
  else if kind = 2 then (if s.lock (x % 4).toNat ≠ 0 then none else some (s.setLock (x % 4).toNat (t + 1)))
  else if kind = 3 then (if s.lock (x % 4).toNat = t + 1 then some (s.setLock (x % 4).toNat 0) else some s)
  else some s
def WS.act (s : WS) (t i kind x : Int) : WS × Bool := match s.pre t kind x with
  | none => (s, false)
  | some s' => (s'.push t i, true)

abbrev lockCells (s : WS) : List Value := [numV s.l0, numV s.l1, numV s.l2, numV s.l3]
def doneCells (l : List (Int × Int × Int)) : List Value := l.flatMap fun (a, b, c) => [numV a, numV b, numV c]
/-- It lies there. -/
structure WorldIs (w : World) (base Bw : Nat) (s : WS) (dv : Value) : Prop where
  blk : Blk 30 w Bw [numV s.n, numV s.l0, numV s.l1, numV s.l2, numV s.l3, dv]
  done : w.ownsRow base 40 3 dv s.done.length (doneCells s.done)

theorem infoTriple : (Try.prog.info? 40).map (fun i => (i.zero, i.size, i.bytes)) = some (some (.agg #[numV 0, numV 0, numV 0]), 3, 24) := by kernel_rfl

theorem mod4 (x : Int) : ∃ k : Nat, k < 4 ∧ (wrap64 (x.tmod 4 + 4)).tmod 4 = (k : Int) ∧ (x % 4).toNat = k := by
  have h1 : wrap64 (x.tmod 4 + 4) = x.tmod 4 + 4 := by
    have := Int.tmod_lt_of_pos x (show (0 : Int) < 4 by decide)
    have := Int.lt_tmod_of_pos x (show (0 : Int) < 4 by decide)
    unfold wrap64; omega
  have h2 : (x.tmod 4 + 4).tmod 4 = x % 4 := by
    have h3 := Int.tmod_lt_of_pos x (show (0 : Int) < 4 by decide)
    have h4 := Int.lt_tmod_of_pos x (show (0 : Int) < 4 by decide)
    rw [Int.tmod_eq_emod_of_nonneg (by omega)]
    have h5 := Int.tmod_add_mul_tdiv x 4
    generalize x.tmod 4 = r at *
    generalize x.tdiv 4 = q at *
    omega
  exact ⟨(x % 4).toNat, by omega, by rw [h1, h2]; omega, rfl⟩
theorem lock_cell (s : WS) (dv : Value) {k : Nat} (hk : k < 4) : [numV s.n, numV s.l0, numV s.l1, numV s.l2, numV s.l3, dv][1 + k]? = some (numV (s.lock k)) := by
  match k, hk with
  | 0, _ => rfl
  | 1, _ => rfl
  | 2, _ => rfl
  | 3, _ => rfl
theorem lock_set (s : WS) (dv : Value) {k : Nat} (hk : k < 4) (v : Int) : [numV s.n, numV s.l0, numV s.l1, numV s.l2, numV s.l3, dv].set (1 + k) (numV v) = [numV (s.setLock k v).n, numV (s.setLock k v).l0, numV (s.setLock k v).l1, numV (s.setLock k v).l2, numV (s.setLock k v).l3, dv] ∧ (s.setLock k v).done = s.done := by
  match k, hk with
  | 0, _ => exact ⟨rfl, rfl⟩
  | 1, _ => exact ⟨rfl, rfl⟩
  | 2, _ => exact ⟨rfl, rfl⟩
  | 3, _ => exact ⟨rfl, rfl⟩
theorem WorldIs.apart {w : World} {base Bw g : Nat} {s : WS} {dv : Value} (h : WorldIs w base Bw s dv) (hg : dv.ownBlock = some g) : Bw ≠ g := blk_apart h.blk h.done hg (by decide)
theorem WorldIs.only {w w' : World} {base Bw : Nat} {s : WS} {dv : Value} {S : Nat → Prop} (h : WorldIs w base Bw s dv) (ho : Only S w w') (h1 : ¬ S Bw) (h2 : ∀ k, dv.ownBlock = some k → ¬ S k) : WorldIs w' base Bw s dv :=
  ⟨h.blk.only ho h1, own_only h.done ho h2⟩
theorem WorldIs.setLock {w : World} {base Bw : Nat} {s : WS} {dv : Value} (h : WorldIs w base Bw s dv) {k : Nat} (hk : k < 4) (v : Int) : WorldIs (w.setCell ⟨Bw, 1 + k, none⟩ (numV v)) base Bw (s.setLock k v) dv := by
  have := h.blk.set (1 + k) (numV v)
  rw [(lock_set s dv hk v).1] at this
  refine ⟨this, ?_⟩
  rw [(lock_set s dv hk v).2]
  exact own_only h.done ((Only.refl (· = Bw) w).setCell (p := ⟨Bw, 1 + k, none⟩) (.inl rfl) _) (fun _ hj e => h.apart hj e.symm)
theorem WorldIs.setN {w : World} {base Bw : Nat} {s : WS} {dv : Value} (h : WorldIs w base Bw s dv) (v : Int) : WorldIs (w.setCell ⟨Bw, 0, none⟩ (numV v)) base Bw { s with n := v } dv :=
  ⟨h.blk.set 0 (numV v), own_only h.done ((Only.refl (· = Bw) w).setCell (p := ⟨Bw, 0, none⟩) (.inl rfl) _) (fun _ hj e => h.apart hj e.symm)⟩
theorem WorldIs.drewN {w : World} {base Bw : Nat} {s : WS} {dv : Value} (h : WorldIs w base Bw s dv) (n : Nat) : WorldIs (w.drewN n) base Bw s dv := h.only ((Only.refl (fun _ => False) w).drewN n) id (fun _ _ => id)

theorem doneCells_snoc (l : List (Int × Int × Int)) (a b c : Int) : doneCells (l ++ [(a, b, c)]) = doneCells l ++ [numV a, numV b, numV c] := by simp [doneCells]
/-- The mark of what was done, behind the append. -/
theorem do_worlds {wc w4 : World} {base Bw g' cap' : Nat} {s1 : WS} {dv : Value} {o : Obj} {t i : Int} (hW : WorldIs wc base Bw s1 dv) (hgrow : (wc.alloc o).drew.grownBy w4 dv.ownBlock)
    (hown : w4.ownsRow base 40 3 (.slice (some ⟨g', 0, none⟩) (s1.done.length + 1) cap') (s1.done.length + 1) (doneCells s1.done ++ [numV t, numV i, numV s1.n])) :
    Blk 30 w4 Bw [numV s1.n, numV s1.l0, numV s1.l1, numV s1.l2, numV s1.l3, dv] ∧
    WorldIs (w4.setCell ⟨Bw, 5, none⟩ (.slice (some ⟨g', 0, none⟩) (s1.done.length + 1) cap')) base Bw (s1.push t i) (.slice (some ⟨g', 0, none⟩) (s1.done.length + 1) cap') ∧
    Only (fun k => k = Bw ∨ dv.ownBlock = some k) wc (w4.setCell ⟨Bw, 5, none⟩ (.slice (some ⟨g', 0, none⟩) (s1.done.length + 1) cap')) := by
  have hog := grown_only hgrow
  have h1 : WorldIs (wc.alloc o).drew base Bw s1 dv := hW.only (((Only.refl (fun _ => False) wc).alloc o).drewN 1) id (fun _ _ => id)
  have b4 := h1.blk.only hog (fun e => h1.apart e rfl)
  refine ⟨b4, ⟨b4.set 5 _, ?_⟩, ?_⟩
  · have hne : Bw ≠ g' := blk_apart b4 hown rfl (by decide)
    have := own_only hown ((Only.refl (· = Bw) w4).setCell (p := ⟨Bw, 5, none⟩) (.inl rfl) (.slice (some ⟨g', 0, none⟩) (s1.done.length + 1) cap')) (fun j hj e => by subst e; simp [Value.ownBlock] at hj; exact hne hj.symm)
    simpa [WS.push, doneCells_snoc] using this
  · exact ((((Only.refl (fun k => k = Bw ∨ dv.ownBlock = some k) wc).alloc o).drewN 1).trans (hog.mono fun k _ h => .inr h)).setCell (p := ⟨Bw, 5, none⟩) (.inl (.inl rfl)) _

/-- What Do leaves. -/
structure DoTo (base Bw : Nat) (s : WS) (dv : Value) (w : World) (e : Ending) (w' : World) (s' : WS × Bool) : Prop where
  told : e = .returned (.bool s'.2)
  ex : ∃ dv', WorldIs w' base Bw s'.1 dv' ∧ (dv'.ownBlock = dv.ownBlock ∨ ∀ g, dv'.ownBlock = some g → w.heap.size ≤ g)
  only : Only (fun k => k = Bw ∨ dv.ownBlock = some k) w w'

set_option maxHeartbeats 4000000 in
theorem do_any {base Bw : Nat} {s : WS} {dv : Value} {w : World} (h : WorldIs w base Bw s dv) (hb : base ≤ w.heap.size) (hd : s.done.length ≤ 1000000) (t i kind x : Int) (ht : 0 ≤ t) (ht' : t ≤ 1000000) (s' : WS × Bool) (hs : s.act t i kind x = s') :
    Calls Try.prog 19 #[.pointer (some ⟨Bw, 0, none⟩), .int .i64 t, .int .i64 i, .agg #[.int .i64 kind, .int .i64 x]] w fun e w' => DoTo base Bw s dv w e w' s' := by
  obtain ⟨k, hk, hm, hm2⟩ := mod4 x
  have H := Lib.hid h
  have HS := Lib.hid hs
  clear h hs
  go_enter Try.func19, Try.ntmps19
  go_upto_block 0 with fail
  go_cut [] from 17 to 70 (fun wx => ∃ s1, Hid (s.pre t kind x = some s1) ∧ Hid (s1.done.length = s.done.length) ∧ Hid (WorldIs wx base Bw s1 dv) ∧ Hid (Only (fun k => k = Bw ∨ dv.ownBlock = some k) w wx))
  case first =>
    have h1 : WorldIs (w.alloc (.cells #[.int .i64 kind, .int .i64 x] 43)) base Bw s dv := H.out.only ((Only.refl (fun _ => False) w).alloc _) id (fun _ _ => id)
    have o1 : Only (fun k => k = Bw ∨ dv.ownBlock = some k) w (w.alloc (.cells #[.int .i64 kind, .int .i64 x] 43)) := (Only.refl _ _).alloc _
    have bi : Blk 43 (w.alloc (.cells #[.int .i64 kind, .int .i64 x] 43)) w.heap.size [.int .i64 kind, .int .i64 x] := Blk.new (l := [.int .i64 kind, .int .i64 x])
    have ci := bi.at (o := 1) rfl
    have c0 := h1.blk.at (o := 0) rfl
    have f0 := h1.blk.frozen 0
    have ck := h1.blk.at (lock_cell s dv hk)
    have fk := h1.blk.frozen (1 + k)
    have K := Lib.hid (And.intro h1 o1)
    clear h1 o1 bi
    by_cases h0 : kind = 0
    · subst h0
      have P := Lib.hid (show s.pre t 0 x = some { s with n := wrap64 (s.n + x.tmod 1000) } by simp [WS.pre])
      generalize w.alloc (.cells #[.int .i64 0, .int .i64 x] 43) = w1 at *
      go_wp2_with fail
      go_still_tail 9, (by kernel_rfl)
      go_wp2
      go_meet
      case rel => exact ⟨_, P, Lib.hid rfl, Lib.hid ((K.out.1.drewN 1).setN _), Lib.hid ((K.out.2.drewN 1).setCell (p := ⟨Bw, 0, none⟩) (.inl (.inl rfl)) _)⟩
    · by_cases h1 : kind = 1
      · subst h1
        generalize w.alloc (.cells #[.int .i64 1, .int .i64 x] 43) = w1 at *
        by_cases z0 : s.n < x
        · have P := Lib.hid (show s.pre t 1 x = none by simp [WS.pre, z0])
          obtain rfl : s' = (s, false) := by rw [← HS.out]; simp [WS.act, P.out]
          go_wp2_with fail
          go_quiet (fail)
          go_wp2
          go_ret
          exact ⟨rfl, ⟨dv, K.out.1.drewN _, .inl rfl⟩, K.out.2.drewN _⟩
        · have P := Lib.hid (show s.pre t 1 x = some s by simp [WS.pre, z0])
          go_wp2_with fail
          go_quiet (fail)
          go_wp2
          go_meet
          case rel => exact ⟨_, P, Lib.hid rfl, Lib.hid (K.out.1.drewN _), Lib.hid (K.out.2.drewN _)⟩
      · by_cases h2 : kind = 2
        · subst h2
          have z0 : s.lock k = 0 ∨ s.lock k ≠ 0 := by omega
          rcases z0 with z0 | z0
          · have P := Lib.hid (show s.pre t 2 x = some (s.setLock k (t + 1)) by simp [WS.pre, hm2, z0])
            rw [z0] at ck
            clear z0
            go_wp2
            go_meet
            case rel => exact ⟨_, P, Lib.hid (by rw [(lock_set s dv hk _).2]), Lib.hid (K.out.1.setLock hk (t + 1)), Lib.hid (K.out.2.setCell (p := ⟨Bw, 1 + k, none⟩) (.inl (.inl rfl)) _)⟩
          · have P := Lib.hid (show s.pre t 2 x = none by simp [WS.pre, hm2, z0])
            have z1 : (s.lock k == 0) = false := by simpa using z0
            clear z0
            obtain rfl : s' = (s, false) := by rw [← HS.out]; simp [WS.act, P.out]
            go_wp2
            go_ret
            exact ⟨rfl, ⟨dv, K.out.1, .inl rfl⟩, K.out.2⟩
        · by_cases h3 : kind = 3
          · subst h3
            by_cases z0 : s.lock k = t + 1
            · have P := Lib.hid (show s.pre t 3 x = some (s.setLock k 0) by simp [WS.pre, hm2, z0])
              rw [z0] at ck
              clear z0
              go_wp2
              go_meet
              case rel => exact ⟨_, P, Lib.hid (by rw [(lock_set s dv hk _).2]), Lib.hid (K.out.1.setLock hk 0), Lib.hid (K.out.2.setCell (p := ⟨Bw, 1 + k, none⟩) (.inl (.inl rfl)) _)⟩
            · have P := Lib.hid (show s.pre t 3 x = some s by simp [WS.pre, hm2, z0])
              have z1 : (s.lock k == t + 1) = false := by simpa using z0
              clear z0
              go_wp2
              go_meet
              case rel => exact ⟨_, P, Lib.hid rfl, Lib.hid K.out.1, Lib.hid K.out.2⟩
          · have P := Lib.hid (show s.pre t kind x = some s by simp [WS.pre, h0, h1, h2, h3])
            have z0 : (kind == 0) = false := by simpa using h0
            have z1 : (kind == 1) = false := by simpa using h1
            have z2 : (kind == 2) = false := by simpa using h2
            have z3 : (kind == 3) = false := by simpa using h3
            clear h0 h1 h2 h3
            go_wp2
            go_meet
            case rel => exact ⟨_, P, Lib.hid rfl, Lib.hid K.out.1, Lib.hid K.out.2⟩
  case rest =>
    obtain ⟨s1, P, hdl, hW, hO⟩ := hcut
    obtain rfl : s' = (s1.push t i, true) := by rw [← HS.out]; simp [WS.act, P.out]
    obtain ⟨i0, hi, hz0, hz1, hz2⟩ := info_at infoTriple
    have c0 := hW.out.blk.at (o := 0) rfl
    have c5 := hW.out.blk.at (o := 5) rfl
    have f5 := hW.out.blk.frozen 5
    have hbc : base ≤ wc.heap.size := Nat.le_trans hb hO.out.size
    have hd1 : s1.done.length ≤ 1000000 := by rw [hdl.out]; exact hd
    have hblt := hW.out.blk.lt
    have hbne : Bw ≠ wc.heap.size := by omega
    have ca := ((hW.out.blk.alloc (.cells #[.int .i64 t, .int .i64 i, .int .i64 s1.n] 40)).at (o := 5) rfl)
    have D := Lib.hid hW.out.done
    go_wp2_with fail
    go_region_law (refine step_append_lies _ rfl (.tmp 75) (.tmp 83) 28 rfl base 40 i0 (.agg #[numV 0, numV 0, numV 0]) 3 24 Try.underlying28 hi hz0 hz1 hz2 rfl (by decide) _ _ _ rfl (D.out.alloc _) ⟨wc.heap.size, 0, none⟩ 1 1 [numV t, numV i, numV s1.n] rfl rfl (World.news_of_block (Blk.new (l := [numV t, numV i, numV s1.n]))) (by simp [Value.oneCell']) (by decide) (by simp only [maxLen]; omega) (by omega) (by simp; omega) (wc.heap.size + 1) (by simp) ?_; intro g' cap' w4 hown hgrow hlie hlt4; obtain ⟨b4, k1, k2⟩ := do_worlds hW.out hgrow hown; have d5 := b4.at (o := 5) rfl; have e5 := b4.frozen 5; have E := Lib.hid (And.intro k1 (And.intro k2 hlie)); clear b4 k1 k2 hown hgrow hlie hlt4)
    all_goals
      go_wp2
      go_ret
      refine ⟨rfl, ⟨_, E.out.1, ?_⟩, hO.out.trans E.out.2.1⟩
      rcases E.out.2.2 with e | e
      · exact .inl e.symm
      · refine .inr fun g hg => ?_
        have h1 := hO.out.size
        cases hg
        show w.heap.size ≤ g'
        omega

end Go.Proofs.Ytfgkickjjeamgaa
