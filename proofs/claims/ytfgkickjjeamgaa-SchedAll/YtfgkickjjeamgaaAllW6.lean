/- Layer 6: SchedAll: the walk. -/
import Derived.Test.YtfgkickjjeamgaaAllM6
namespace Go.Proofs.Ytfgkickjjeamgaa
open Go.RowKit

theorem sum_take {T : List (List (Int × Int))} {t : Nat} {l : List (Int × Int)} (h : T[t]? = some l) : ((T.take (t + 1)).map List.length).sum = ((T.take t).map List.length).sum + l.length := by
  obtain ⟨hlt, rfl⟩ := List.getElem?_eq_some_iff.1 h
  rw [List.take_succ_eq_append_getElem hlt, List.map_append, List.sum_append]
  rfl
theorem sum_take_le {T : List (List (Int × Int))} (hl : ∀ l ∈ T, l.length ≤ 60) (t : Nat) : ((T.take t).map List.length).sum ≤ T.length * 60 := by
  have h1 := sum_len_le (T := T.take t) (fun l h => hl l (List.mem_of_mem_take h))
  have h2 : (T.take t).length ≤ T.length := by simp; omega
  omega

/-- While the moves are counted. -/
structure CntSt (w6 : World) (Bt Bc n : Nat) (tv : List Value) (M : List Int) (wr : World) : Prop where
  bt : Blk 33 wr Bt tv
  bc : Blk 3 wr Bc (countsL n M)
  only : Only (fun _ => False) w6 wr
  lo : w6.heap.size ≤ Bc
theorem CntSt.inc {w6 : World} {Bt Bc n t : Nat} {tv : List Value} {M : List Int} {wr : World} (h : CntSt w6 Bt Bc n tv M wr) (hne : Bt ≠ Bc) (ht : t < n) : CntSt w6 Bt Bc n tv (M ++ [(t : Int)]) (wr.setCell ⟨Bc, t, none⟩ (.int .i64 ((M.count (t : Int) : Nat) + 1 : Int))) := by
  refine ⟨h.bt.setOther hne _ _, ?_, h.only.setCell (p := ⟨Bc, t, none⟩) (.inr h.lo) _, h.lo⟩
  rw [counts_snoc ht]
  exact h.bc.set t _

set_option maxRecDepth 100000 in
set_option maxHeartbeats 16000000 in
theorem all6 (pa : Option Addr) (pc : Nat) (L : List Int) (a : Option Addr) (c : Nat) (T : List (List (Int × Int))) (w : World) (hp : ListIn numV w pa L) (hT : ThrIn (fun k => k < w.heap.size) w a T) :
    Calls Try.prog 4 #[.slice pa L.length pc, .slice a T.length c] w fun e w' => e = .returned (.bool true) ∧ Below w.heap.size w w' := by
  have H := Lib.hid (And.intro hp hT)
  clear hp hT
  obtain ⟨i1, hi, hz0, hz1, hz2⟩ := info_at infoInstr
  obtain ⟨i2, ki, kz0, kz1, kz2⟩ := info_at infoInstrs
  obtain ⟨i3, qi, qz0, qz1, qz2⟩ := info_at infoStep
  go_enter Try.func4, Try.ntmps4
  go_wp2_with fail
  refine (awake6 w).mono ?_
  rintro e w1 ⟨rfl, hB1⟩
  have o1 : Only (fun _ => False) w w1 := Only.of_below hB1 _
  have H1 := Lib.hid (And.intro hB1 (And.intro (H.out.1.below hB1) (H.out.2.only o1 (fun _ _ => id))))
  clear H hB1 o1
  go_wp2_with fail
  refine (great6 H1.out.2.2 pa pc L).mono ?_
  rintro e w' ⟨⟨b, rfl, hb⟩, rfl⟩
  cases b
  · obtain ⟨hL, hn, hl⟩ := hb rfl
    have HL := Lib.hid hl
    clear hl hb
    go_wp2_with fail
    have F2 : Hid (WorldIs (w1.alloc (.cells #[.int .i64 0, .int .i64 0, .int .i64 0, .int .i64 0, .int .i64 0, .slice none 0 0] 30)) 0 w1.heap.size zeroW (.slice none 0 0) ∧
        Below w1.heap.size w1 (w1.alloc (.cells #[.int .i64 0, .int .i64 0, .int .i64 0, .int .i64 0, .int .i64 0, .slice none 0 0] 30)) ∧
        (w1.alloc (.cells #[.int .i64 0, .int .i64 0, .int .i64 0, .int .i64 0, .int .i64 0, .slice none 0 0] 30)).heap.size = w1.heap.size + 1) := Lib.hid
      ⟨⟨Blk.new (l := [numV 0, numV 0, numV 0, numV 0, numV 0, .slice none 0 0]), World.ownsRow_nil _ _ _ _⟩, (Below.refl _ _).alloc (Nat.le_refl _) _, by simp⟩
    generalize w1.alloc (.cells #[.int .i64 0, .int .i64 0, .int .i64 0, .int .i64 0, .int .i64 0, .slice none 0 0] 30) = w2 at *
    have hz2' := F2.out.2.2
    have hzw := H1.out.1.size
    have T2 := Lib.hid (H1.out.2.2.only (Only.of_below F2.out.2.1 (fun _ => False)) (fun _ _ => id))
    have P2 := Lib.hid (H1.out.2.1.below F2.out.2.1)
    go_loopg [6, 7, 8, 9, 10] T.length (fun g o al iv _ _ wr => ∃ (t : Nat), t + g = T.length ∧ al = .int .i64 (((T.take t).map List.length).sum : Nat) ∧ iv = .int .i64 t ∧ Hid (FreeSt w2 T t o wr))
    case atStart => exact ⟨0, by omega, rfl, rfl, Lib.hid ⟨Below.refl _ _, [], World.ownsRow_nil _ _ _ _, fun j l hj => by omega⟩⟩
    case round =>
      obtain ⟨t, hg, rfl, rfl, ST⟩ := hrel
      by_cases hlt : t < T.length
      · have hTt := List.getElem?_eq_getElem hlt
        have hll := HL.out T[t] (List.getElem_mem hlt)
        have hsum := sum_take hTt
        have hsum2 := sum_take_le HL.out t
        have hsum3 := sum_take_le HL.out (t + 1)
        obtain ⟨b, off, a', c', rfl, hQ, hcell, hrow⟩ := T2.out t _ hTt
        have hbz : b < w2.heap.size := by omega
        have hcell := (ST.out.below.cell (p := ⟨b, off + t, none⟩) hbz).trans hcell
        have hbr : b < wr.heap.size := Nat.lt_of_lt_of_le hbz ST.out.below.size
        have hrow2 : ∀ (i : Nat) p, T[t][i]? = some p → ∃ b' off', a' = some ⟨b', off', none⟩ ∧ b' < wr.heap.size ∧ wr.cell? ⟨b', off' + i * 2 + 1, none⟩ = some (numV p.2) := fun i p hp => by
          obtain ⟨b', off', k1, k2, _, k4⟩ := hrow i p hp
          have hb' : b' < w2.heap.size := by omega
          exact ⟨b', off', k1, Nat.lt_of_lt_of_le hb' ST.out.below.size, (ST.out.below.cell (p := ⟨b', off' + i * 2 + 1, none⟩) hb').trans k4⟩
        have HR := Lib.hid hrow2
        clear hrow hrow2
        have TT := Lib.hid hTt
        have S1 := Lib.hid hsum
        generalize T[t] = l at *
        clear hTt hsum
        generalize ((T.take t).map List.length).sum = sm at *
        go_wp2_with fail
        go_loopg [9, 10] l.length (fun g lv kv wi => ∃ (k : Nat), k + g = l.length ∧ kv = .int .i64 k ∧ Hid (CopySt wr l k lv wi))
        case atStart => exact ⟨0, by omega, rfl, Lib.hid ⟨Below.refl _ _, World.ownsRow_nil _ _ _ _⟩⟩
        case round =>
          obtain ⟨k, hgk, rfl, SI⟩ := hrel
          have dc := (SI.out.below.cell (p := ⟨b, off + t, none⟩) hbr).trans hcell
          by_cases hlk : k < l.length
          · have hp := List.getElem?_eq_getElem hlk
            obtain ⟨b', off', rfl, hb', hx⟩ := HR.out k _ hp
            have dx := (SI.out.below.cell (p := ⟨b', off' + k * 2 + 1, none⟩) hb').trans hx
            have PP := Lib.hid hp
            generalize l[k] = p at *
            clear hp hx hcell
            have hrow := SI.out.row
            have hqs := SI.out.below.size
            go_wp2_with (at_builtin; refine wpList_append_own _ rfl _ _ 41 rfl _ 43 i1 (.agg #[numV 0, numV 0]) 2 16 Try.underlying41 hi hz0 hz1 hz2 rfl (by decide) _ _ _ rfl (hrow.alloc _) ⟨wr.heap.size, 0, none⟩ 1 1 [numV 0, numV p.2] rfl rfl (World.news_of_block (Blk.new (l := [numV 0, numV p.2]))) (by simp [Value.oneCell']) (by simp only [maxLen]; omega) (by omega) (by simp; omega) ?_; intro v' w3 hown' hgrow _)
            go_roundg (l.length - (k + 1))
            case measure => omega
            case rel => exact ⟨k + 1, by omega, by go_num, Lib.hid (SI.out.more PP.out hown' hgrow)⟩
          · obtain rfl : k = l.length := by omega
            obtain ⟨la, lc, rfl, _⟩ := own_form SI.out.row
            obtain ⟨vs, hrow, hex⟩ := ST.out.ex
            have hb0 := ST.out.below
            have hz0' := hb0.size
            have hz1' := SI.out.below.size
            have hvs : vs.length = t := by have := hrow.1; simpa using this
            have hrow2 := own_only hrow (Only.of_below SI.out.below (fun _ => False)) (fun _ _ => id)
            have FIN : Hid (∀ (ob : Obj) (o' : Value) (w5 : World), w5.ownsRow w2.heap.size 41 1 o' (t + 1) (vs ++ [.slice la l.length lc]) → (wr.alloc ob).grownBy w5 u6.ownBlock → FreeSt w2 T (t + 1) o' w5) := Lib.hid fun ob o' w5 h1 h2 => FreeSt.more hb0 hrow hex TT.out SI.out h1 h2
            clear hex hrow hb0 ST SI HR
            go_wp2_with (at_builtin; refine wpList_append_own _ rfl _ _ 23 rfl _ 41 i2 (.slice none 0 0) 1 24 Try.underlying23 ki kz0 kz1 kz2 rfl (by decide) _ _ _ rfl (hrow2.alloc _) ⟨wr.heap.size, 0, none⟩ 1 1 [.slice la l.length lc] rfl rfl (cell_one_new _ _ _) (by simp [Value.oneCell']) (by simp only [maxLen]; omega) (by omega) (by simp; omega) ?_; intro v' w3 hown' hgrow _)
            go_roundg (T.length - (t + 1))
            case measure => omega
            case rel => exact ⟨t + 1, by omega, by rw [S1.out]; go_num, by go_num, Lib.hid (FIN.out _ _ _ hown' hgrow)⟩
      · obtain rfl : t = T.length := by omega
        have hsm := sum_take_le HL.out T.length
        rw [List.take_length] at hsm ⊢
        obtain ⟨fa, fc, rfl, hthr⟩ := ST.out.thr
        have FR := Lib.hid (free_runs hn HL.out L)
        have hn2 : (freeT T).length ≤ 8 := by rw [freeT_len]; exact hn
        have HL2 : Hid (∀ l ∈ freeT T, l.length ≤ 60) := Lib.hid fun l hl => by
          obtain ⟨l', hl', rfl⟩ := List.mem_map.1 hl
          simpa using HL.out l' hl'
        have hzr := ST.out.below.size
        have W2 := Lib.hid (show WorldIs wr 0 w1.heap.size zeroW (.slice none 0 0) from ⟨F2.out.1.blk.below ST.out.below F2.out.1.blk.lt, World.ownsRow_nil _ _ _ _⟩)
        have THR := Lib.hid hthr
        have PR : Hid (∀ (k : Nat) x, L[k]? = some x → ∃ b off, pa = some ⟨b, off, none⟩ ∧ b < w1.heap.size ∧ wr.cell? ⟨b, off + k, none⟩ = some (numV x)) := Lib.hid fun k x hx => by
          obtain ⟨b, off, ha, hlt, hc⟩ := H1.out.2.1 k x hx
          exact ⟨b, off, ha, hlt, (ST.out.below.cell (p := ⟨b, off + k, none⟩) (by show b < w2.heap.size; omega)).trans ((F2.out.2.1.cell (p := ⟨b, off + k, none⟩) hlt).trans hc)⟩
        have BR : Hid (Below w.heap.size w wr) := Lib.hid ((H1.out.1.trans (F2.out.2.1.mono hzw)).trans (ST.out.below.mono (by omega)))
        generalize freeT T = T' at *
        generalize (T.map List.length).sum = sm at *
        clear hthr ST P2 T2 HL F2
        go_wp2_with fail
        refine (chains_any (w := wr) (Bw := w1.heap.size) (c := fc) (THR.out.mono fun k hk => ⟨hk.2, by omega⟩) (by omega) (by omega) (fun l hl => by have := HL2.out l hl; omega)).mono ?_
        rintro e w3 ⟨v, vs, rfl, hown3, hB3, hst3⟩
        have K3 := Lib.hid (And.intro hown3 (And.intro hB3 hst3))
        have hz3 := hB3.size
        clear hown3 hB3 hst3
        go_wp2_with fail
        have CH := sched_Chain (w := w3.alloc (.cells #[.nilFunc, .nilFunc] 24)) (lv := .slice (some ⟨w3.heap.size, 0, none⟩) 2 2) (vals := [.nilFunc, .nilFunc]) ⟨rfl, .inr ⟨_, 0, 2, rfl, Nat.le_refl _, (Blk.new (l := [.nilFunc, .nilFunc])).lt, cellsAt_of_heap (Blk.new (l := [.nilFunc, .nilFunc]))⟩⟩ (fun v hv => .inl (by simpa using hv)) (by decide)
        refine CH.mono ?_
        clear CH
        rintro e w4' ⟨w4, ca, cc, rfl, hw4, hB4, _⟩
        have o4 : Only (fun _ => False) w3 w4' := by
          rw [hw4]
          exact ((((Only.refl (fun _ => False) w3).alloc (.cells #[.nilFunc, .nilFunc] 24)).trans (Only.of_below hB4 _)).alloc _)
        have hsv : stepV ([Value.nilFunc, Value.nilFunc].filter notNil).length w4.heap.size = .nilFunc := if_pos rfl
        rw [hsv]
        clear hsv hw4 hB4
        have hz4 := o4.size
        have hrow4 := own_only K3.out.1 o4 (fun _ _ => id)
        have O4 := Lib.hid o4
        clear o4
        have hvs3 : vs.length = T'.length := by have := hrow4.1; simpa using this
        go_wp2_with (at_builtin; refine wpList_append_own _ rfl _ _ 35 rfl _ 45 i3 .nilFunc 1 8 Try.underlying35 qi qz0 qz1 qz2 rfl (by decide) _ _ _ rfl (hrow4.alloc _) ⟨w4'.heap.size, 0, none⟩ 2 2 [.nilFunc, .nilFunc] rfl rfl (World.news_of_block (Blk.new (l := [.nilFunc, .nilFunc]))) (by simp [Value.oneCell']) (by simp only [maxLen]; omega) (by omega) (by simp; omega) ?_; intro v5 w5 hown5 hgrow5 _)
        have o5 : Only (fun k => v.ownBlock = some k) w3 w5 := ((O4.out.mono fun _ _ h => h.elim).alloc _).trans (grown_only hgrow5)
        have hz5 := o5.size
        have hvo : ∀ k, v.ownBlock = some k → wr.heap.size ≤ k := fun k hk => (K3.out.1.lt k hk).1
        have O5 := Lib.hid (And.intro o5 hvo)
        have R5 := Lib.hid (all_told (pa := pa) (pc := pc) K3.out.2.1 K3.out.1 K3.out.2.2 hown5 o5 W2.out (fun w' ho => fun k x hx => by
          obtain ⟨b, off, ha, hlt, hc⟩ := PR.out k x hx
          have h1 := (K3.out.2.1.cell (p := ⟨b, off + k, none⟩) (by show b < wr.heap.size; omega)).trans hc
          have h2 := only_cell h1 o5 (fun e => by have := hvo b e; omega)
          exact ⟨b, off, ha, by have := ho.size; omega, only_cell h2 ho (by omega)⟩) hn2 HL2.out hL _ rfl)
        clear hown5 hgrow5 hrow4 o5 hvo
        refine R5.out.mono ?_
        clear R5
        generalize hFF : RS.run (insM (T'.length + 2)) (zeroW, rem0 T' ++ [[], []]) L = F
        obtain ⟨f1, f2, f3, f4, f5⟩ := FR.out F hFF.symm
        have F4 := Lib.hid (And.intro f4 f5)
        rintro e w6 ⟨⟨ma, mc, rfl, hN6, hmb6⟩, ho6⟩
        rw [f1, f3]
        have NF : Hid (∀ k, k < F.moves.length → ∃ b off, ma = some ⟨b, off, none⟩ ∧ b < w6.heap.size ∧ w6.cell? ⟨b, off + k, none⟩ = some (.int .i64 (F.moves.getD k 0))) := Lib.hid (by
          obtain ⟨a2, c2, h1, h2⟩ := hN6.form
          cases h1
          exact h2)
        have hz6 := ho6.size
        have TH6 : Hid (∀ (t : Nat) l, T'[t]? = some l → ∃ b off a' c', fa = some ⟨b, off, none⟩ ∧ b < w6.heap.size ∧ w6.cell? ⟨b, off + t, none⟩ = some (.slice a' l.length c')) := Lib.hid fun t l hl => by
          obtain ⟨b, off, a', c', h1, h2, h3, _⟩ := THR.out t l hl
          have k1 := (K3.out.2.1.cell (p := ⟨b, off + t, none⟩) h2.2).trans h3
          have k2 := only_cell k1 O5.out.1 (fun e => by have := O5.out.2 b e; omega)
          exact ⟨b, off, a', c', h1, by omega, only_cell k2 ho6 (by omega)⟩
        have B6 : Hid (Below w.heap.size w w6) := Lib.hid (by
          have h1 := BR.out.trans (K3.out.2.1.mono (by omega))
          have h2 := O5.out.1.below_step (n := w.heap.size) (by omega) h1 (fun i hi e => by have := O5.out.2 i e; omega)
          exact ho6.below_step (by omega) h2 (fun i hi e => by omega))
        clear hN6 hmb6 ho6 K3 O4 O5 THR PR BR W2 FR hFF f1 f3 f4 f5
        rw [f2]
        rw [f2] at NF
        have hmk := fun w => run_make_recs (P := Try.prog) Try.underlying22 infoInt T'.length (by omega) (by omega) w
        have MZ := Lib.hid (made_zero T'.length)
        generalize madeCells (Value.int .i64 0).cells (T'.length * 1) = Mz at *
        go_wp2_with fail
        have C0 : Hid (CntSt w6 w6.heap.size (w6.heap.size + 1) T'.length [.slice ma sm mc, .int .i64 sm, .int .i64 0] [] ((w6.alloc (.cells #[.slice ma sm mc, .int .i64 sm, .int .i64 0] 33)).alloc (.cells Mz 3))) := Lib.hid (by
          refine ⟨(Blk.new (l := [.slice ma sm mc, .int .i64 sm, .int .i64 0])).alloc _, ?_, ((Only.refl _ _).alloc _).alloc _, by omega⟩
          have e : countsL T'.length [] = Mz.toList := by
            rw [MZ.out, counts_zero]
            simp
          have := Blk.new (t := 3) (W := w6.alloc (.cells #[.slice ma sm mc, .int .i64 sm, .int .i64 0] 33)) (l := Mz.toList)
          rw [e]
          simpa using this)
        clear MZ hmk
        go_loopw [13] (fun i wr => ∃ (k : Nat), k ≤ sm ∧ i = .int .i64 k ∧ Hid (CntSt w6 w6.heap.size (w6.heap.size + 1) T'.length [.slice ma sm mc, .int .i64 sm, .int .i64 0] (F.moves.take k) wr)) (fun i _ => sm - (intOf i).toNat)
        case atStart => exact ⟨0, Nat.zero_le _, rfl, C0⟩
        case round =>
          clear C0
          obtain ⟨k, hk, rfl, CS⟩ := hrel
          have c0 := CS.out.bt.at (o := 0) rfl
          by_cases hlt : k < sm
          · obtain ⟨mb, mo, rfl, hmlt, hmc⟩ := NF.out k (by omega)
            have hkl : k < F.moves.length := by omega
            obtain ⟨t, ht, htn⟩ := F4.out.1 _ (List.getElem_mem hkl)
            rw [getD_at hkl, ht] at hmc
            have hmc2 := only_cell hmc CS.out.only id
            have c1 := CS.out.bc.at (counts_at htn)
            have c2 := CS.out.bc.frozen t
            have hcn : (F.moves.take k).count (t : Int) ≤ 1000 := by
              have h1 := List.count_le_length (a := (t : Int)) (l := F.moves.take k)
              have h2 : (F.moves.take k).length ≤ k := by simp; omega
              omega
            have NX := Lib.hid (CS.out.inc (by omega) htn)
            have TS : Hid (F.moves.take (k + 1) = F.moves.take k ++ [(t : Int)]) := Lib.hid (by rw [List.take_succ_eq_append_getElem hkl, ht])
            clear hmc ht CS
            generalize (F.moves.take k).count (t : Int) = cn at *
            go_wp2
            go_roundw
            case rel => exact ⟨k + 1, by omega, by go_num, by rw [TS.out]; exact NX⟩
            case measure => simp [intOf]; omega
          · obtain rfl : k = sm := by omega
            have CT : Hid (∀ (t : Nat) l, T'[t]? = some l → wr.cell? ⟨w6.heap.size + 1, t, none⟩ = some (.int .i64 (l.length : Nat))) := Lib.hid fun t l hl => by
              have h1 := CS.out.bc.at (counts_at (List.getElem?_eq_some_iff.1 hl).1)
              rw [← f2, List.take_length, F4.out.2 t l hl] at h1
              exact h1
            have TH : Hid (∀ (t : Nat) l, T'[t]? = some l → ∃ b off a' c', fa = some ⟨b, off, none⟩ ∧ wr.cell? ⟨b, off + t, none⟩ = some (.slice a' l.length c')) := Lib.hid fun t l hl => by
              obtain ⟨b, off, a', c', h1, h2, h3⟩ := TH6.out t l hl
              exact ⟨b, off, a', c', h1, only_cell h3 CS.out.only id⟩
            have BW : Hid (Below w.heap.size w wr) := Lib.hid (CS.out.only.below_step (by have := B6.out.size; omega) B6.out (fun _ _ => id))
            clear CS TH6 F4 NF
            go_wp2_with fail
            go_loopw [14] (fun i w8 => ∃ (k n : Nat), k ≤ T'.length ∧ i = .int .i64 k ∧ w8 = wr.drewN n) (fun i _ => T'.length - (intOf i).toNat)
            case atStart => exact ⟨0, 0, Nat.zero_le _, rfl, rfl⟩
            case round =>
              obtain ⟨k, n, hk, rfl, rfl⟩ := hrel
              by_cases hlt : k < T'.length
              · have hT := List.getElem?_eq_getElem hlt
                have k1 := CT.out k _ hT
                obtain ⟨b, off, a', c', rfl, k2⟩ := TH.out k _ hT
                generalize T'[k] = l at *
                change (World.drewN _ n).cell? _ = _ at k1 k2
                generalize hw7 : World.drewN _ n = w7 at *
                go_wp2_with fail
                go_quiet (fail)
                go_wp2
                go_roundw
                case rel => exact ⟨k + 1, _, by omega, by go_num, by rw [← hw7, drewN_twice]⟩
                case measure => simp [intOf]; omega
              · obtain rfl : k = T'.length := by omega
                go_wp2
                go_ret
                exact ⟨rfl, below_draws BW.out n⟩
  · clear hb
    go_wp2
    go_ret
    exact ⟨rfl, H1.out.1⟩

end Go.Proofs.Ytfgkickjjeamgaa
