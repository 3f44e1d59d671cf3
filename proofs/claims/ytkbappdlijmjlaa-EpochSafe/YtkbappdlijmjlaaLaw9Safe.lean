/- EpochSafe's walk. -/
import Derived.Test.YtkbappdlijmjlaaSafeJ9
import Derived.Deep.RegionHeld3
import Derived.Deep.MidRow
namespace Go.Proofs.Ytkbappdlijmjlaa
open Go.RowKit

abbrev encE9 (p : Int × Int) : List Value := [.int .i64 p.1, .int .i64 p.2]
theorem infoBool9 : (Try.prog.info? 4).map (fun i => (i.zero, i.size, i.bytes)) = some (some (.bool false), 1, 1) := by kernel_rfl
theorem infoArr9 : (Try.prog.info? 42).map (fun i => (i.zero, i.size, i.bytes)) = some (some (.agg (row8 (List.replicate 8 false)).toArray), 8, 8) := by kernel_rfl
theorem made_bools9 (n : Nat) : madeCells (Value.bool false).cells (n * 1) = ((List.replicate n false).map Value.bool).toArray := by
  apply Array.ext
  · simp [madeCells]
  · intro i h1 h2
    simp [madeCells, Value.cells, Nat.mod_one]
theorem rem8 (y : Int) : ∃ m : Nat, m < 8 ∧ (y.tmod 8 + 8) % 8 = (m : Int) ∧ (-8 < y.tmod 8 ∧ y.tmod 8 < 8) ∧ 0 ≤ (y.tmod 8 + 8) % 8 ∧ (y.tmod 8 + 8) % 8 < 8 := by
  have h1 := Int.tmod_lt_of_pos y (b := 8) (by decide)
  have h2 := Int.lt_tmod_of_pos y (b := 8) (by decide)
  exact ⟨((y.tmod 8 + 8) % 8).toNat, by omega, by omega, ⟨by omega, h1⟩, by omega, by omega⟩
theorem sst_start {w1 w2 w' : World} {B P Gw Gt Rt : Nat} {v : Nat → Value} (h1 : EpIs w2 w1.heap.size B P v ⟨0, List.replicate 8 none, fun _ => []⟩) (hB : w1.heap.size ≤ B ∧ w1.heap.size ≤ P) (b1 : Below w1.heap.size w1 w2) (b2 : Below w2.heap.size w2 w') (hw : Blk 40 w' Gw [.slice none 0 0]) (ht : Blk 41 w' Gt [.slice (some ⟨Rt, 0, none⟩) 300 300]) (hr : Blk 4 w' Rt ((List.replicate 300 false).map Value.bool))
    (hl : w2.heap.size ≤ Gw ∧ w2.heap.size ≤ Gt ∧ w2.heap.size ≤ Rt) : SSt w1 w' B P Gw Gt Rt v ⟨0, List.replicate 8 none, fun _ => []⟩ (.slice none 0 0) [] [] (List.replicate 300 false) [] 0 := by
  have hz := b1.size
  refine ⟨⟨h1.below b2, ⟨hw, World.ownsRow_nil _ _ _ _, fun h hh => by simp at hh, ht, hr, List.length_replicate, by omega, by omega, by omega⟩, b1.trans (b2.mono hz), hB⟩, SafeZ.start, Nat.le_refl _, Nat.le_refl _, Nat.le_refl _, fun j _ hj => ?_⟩
  rw [List.getElem?_replicate_of_lt hj]
set_option maxRecDepth 100000 in
set_option maxHeartbeats 8000000 in
theorem safe9 (a : Option Addr) (cap : Nat) (D : List (Int × Int)) (w : World) (ht : RecsIn 2 encE9 w a D) :
    Calls Try.prog 4 #[.slice a D.length cap] w fun e w' => e = .returned (.bool true) ∧ Below w.heap.size w w' := by
  have T := Lib.hid ht
  clear ht
  by_cases hbig : 300 < D.length
  · go_enter Try.func4, Try.ntmps4
    go_wp2_with fail
    refine (awake9 w).mono ?_
    rintro e w1 ⟨rfl, hb⟩
    have B1 := Lib.hid hb
    clear hb
    go_wp2
    go_ret
    exact ⟨rfl, B1.out⟩
  have hd : decide (300 < D.length) = false := by simpa using hbig
  go_enter Try.func4, Try.ntmps4
  go_wp2_with fail
  refine (awake9 w).mono ?_
  rintro e w1 ⟨rfl, hb⟩
  have B1 := Lib.hid hb
  have T1 := Lib.hid (T.out.below hb)
  clear hb T
  go_wp2_with fail
  refine (ep_New 8 w1).mono ?_
  rintro e w2 ⟨rfl, h2, hb2⟩
  rw [show thr 8 = 8 from rfl] at h2
  have Q2 := Lib.hid (And.intro h2 hb2)
  obtain ⟨Bp, hBp⟩ : ∃ Bp, w1.heap.size + 1 = Bp := ⟨_, rfl⟩
  rw [hBp] at Q2 ⊢
  have hBl : w1.heap.size ≤ Bp := by omega
  clear h2 hb2 hBp
  have hmk := run_make_recs (P := Try.prog) Try.underlying41 infoBool9 300 (by decide) (by decide)
  simp only [made_bools9] at hmk
  obtain ⟨Z, hZ⟩ : ∃ Z : List Value, Z = (List.replicate 300 false).map Value.bool := ⟨_, rfl⟩
  rw [← hZ] at hmk
  have HZ := Lib.hid hZ
  have hmk' : ∀ w, Sem.run Try.prog (Instr.makeSlice 41 (.int .i64 300) (.int .i64 300)) w = _ := hmk
  clear hZ hmk
  go_wp2_with fail
  obtain ⟨w3, e3⟩ : ∃ w3, ((w2.alloc (.cells #[.slice none 0 0] 40)).alloc (.cells Z.toArray 4)).alloc (.cells #[.slice (some ⟨w2.heap.size + 1, 0, none⟩) 300 300] 41) = w3 := ⟨_, rfl⟩
  rw [e3]
  have S3 := Lib.hid (sst_start (w' := w3) (Gw := w2.heap.size) (Gt := w2.heap.size + 1 + 1) (Rt := w2.heap.size + 1) Q2.out.1 ⟨hBl, Nat.le_refl _⟩ Q2.out.2 (by rw [← e3]; exact (((Below.refl _ _).alloc (Nat.le_refl _) _).alloc (by simp) _).alloc (by simp; omega) _)
    (by rw [← e3]; exact ((Blk.new (l := [.slice none 0 0])).alloc _).alloc _) (by rw [← e3]; exact (by simpa using Blk.new (W := (w2.alloc (.cells #[.slice none 0 0] 40)).alloc (.cells Z.toArray 4)) (t := 41) (l := [.slice (some ⟨w2.heap.size + 1, 0, none⟩) 300 300])))
    (by rw [← e3, ← HZ.out]; exact Blk.alloc (by simpa using Blk.new (W := w2.alloc (.cells #[.slice none 0 0] 40)) (t := 4) (l := Z)) _) ⟨Nat.le_refl _, by omega, by omega⟩)
  clear e3 hmk' Q2 HZ
  obtain ⟨Gt, hGt⟩ : ∃ Gt, w2.heap.size + 1 + 1 = Gt := ⟨_, rfl⟩
  rw [hGt] at S3 ⊢
  obtain ⟨Rt, hRt⟩ : ∃ Rt, w2.heap.size + 1 = Rt := ⟨_, rfl⟩
  rw [hRt] at S3 ⊢
  obtain ⟨Gw, hGw⟩ : ∃ Gw, w2.heap.size = Gw := ⟨_, rfl⟩
  rw [hGw] at S3 ⊢
  clear hGt hRt hGw
  go_loopg [7] D.length (fun g i wr => ∃ (k : Nat) (v : Nat → Value) (x : Ep) (wv : Value) (H : List (List Bool)) (E : List Nat) (T : List Bool) (W : List (Int × Nat)), k + g = D.length ∧ i = .int .i64 k ∧ Hid (SSt w1 wr Bp w1.heap.size Gw Gt Rt v x wv H E T W k))
  case atStart => exact ⟨0, _, _, _, _, _, _, _, by omega, rfl, S3⟩
  case round =>
    obtain ⟨k, v, x, wv, H, E, T, W, hk, rfl, ST⟩ := hrel
    have HK := Lib.hid hk
    have hkL : k ≤ D.length := by omega
    have hgk := hk
    clear S3 hk
    by_cases hlt : k < D.length
    · obtain ⟨b, off, rfl, hb, hx⟩ := T1.out.at k hlt
      generalize D[k] = p at hx
      obtain ⟨kd, t⟩ := p
      have x0 : wr.cell? ⟨b, off + k * 2, none⟩ = some (.int .i64 kd) := (ST.out.is.below.cell (p := ⟨b, off + k * 2, none⟩) hb).trans (hx 0 _ rfl)
      have x1 : wr.cell? ⟨b, off + k * 2 + 1, none⟩ = some (.int .i64 t) := (ST.out.is.below.cell (p := ⟨b, off + k * 2 + 1, none⟩) hb).trans (hx 1 _ rfl)
      obtain ⟨m, hm8, hm, ⟨ht1, ht2⟩, ht3, ht4⟩ := rem8 t
      have HM := Lib.hid hm
      clear hx hm
      go_upto_region 13 with fail
      rw [HM.out]
      clear HM ht1 ht2 ht3 ht4
      have hk3 : k < 300 := by omega
      have hHk := ST.out.hn
      by_cases k0 : kd = 0
      · subst k0
        go_wp2_with fail
        refine (ep_Pin ST.out.is.ep (m : Int)).mono ?_
        rintro e w5 ⟨rfl, h5, o5⟩
        obtain ⟨x5, h6⟩ := ST.out.pin h5 o5
        have N5 := Lib.hid h6
        clear h5 o5 h6
        go_wp2_with fail
        go_roundg (gk - 1)
        case rel => exact ⟨k + 1, _, _, _, _, _, _, _, by omega, by go_num, N5⟩
        case measure => omega
      by_cases k1 : kd = 1
      · subst k1
        go_wp2_with fail
        refine (ep_Unpin ST.out.is.ep (m : Int)).mono ?_
        rintro e w5 ⟨rfl, h5, o5⟩
        have N5 := Lib.hid (ST.out.is.turnEp h5 (pinOnly o5))
        clear h5 o5
        go_wp2_with fail
        go_loopw [9] (fun i wr => ∃ j : Nat, j ≤ H.length ∧ i = .int .i64 j ∧ Hid (SfIs w1 wr Bp w1.heap.size Gw Gt Rt v ⟨x.now, if isPin x (m : Int) then x.pins.set ((m : Int)).toNat none else x.pins, x.q⟩ wv (offTo m H j) T)) (fun i _ => H.length - (intOf i).toNat)
        case atStart => exact ⟨0, Nat.zero_le _, rfl, by rw [offTo_zero]; exact N5⟩
        case round =>
          obtain ⟨j, hj, rfl, NJ⟩ := hrel
          have c1 := NJ.out.who.wb.at (o := 0) rfl
          have f1 := NJ.out.who.wb.frozen 0
          by_cases hjl : j < H.length
          · have hat := offTo_at (t := m) hjl
            have h8 : H[j].length = 8 := by
              have := ST.out.is.who.h8 H[j] (List.getElem_mem hjl)
              exact this
            have hmg : m < H[j].length := by omega
            obtain ⟨Rw, rc, ew, c4, f4⟩ := NJ.out.who.cell hat (List.getElem?_eq_getElem hmg)
            have hown : wv.ownBlock = some Rw := by rw [ew]; rfl
            obtain ⟨h7, o7⟩ := NJ.out.who.turn hat hm8 hown false
            rw [offTo_step hjl] at h7
            have N7 := Lib.hid (NJ.out.turnWho h7 (o7.mono fun _ _ e => .inr (.inr (.inr (by rw [hown, e])))))
            rw [offTo_len] at ew
            rw [ew] at c1
            generalize (H[j])[m] = bb at c4
            clear h7 o7 hown ew hat h8 hmg
            go_wp2_with fail
            go_roundw
            case rel => exact ⟨j + 1, by omega, by go_num, N7⟩
            case measure => simp [intOf]; omega
          · obtain rfl : j = H.length := by omega
            obtain ⟨x6, H6, h6⟩ := ST.out.unpin hm8 NJ.out
            have N6 := Lib.hid h6
            obtain ⟨wa, wc, ew⟩ := own_form NJ.out.who.wr
            rw [offTo_len] at ew
            rw [ew] at c1
            clear h6 ew
            go_wp2_with fail
            go_roundg (gk - 1)
            case rel => exact ⟨k + 1, _, _, _, _, _, _, _, by omega, by go_num, N6⟩
            case measure => omega
      by_cases k2 : kd = 2
      · subst k2
        have hp8 : (x.pins.map Option.isSome).length = 8 := by rw [List.length_map]; exact ST.out.z.pl
        go_upto_region 24 with fail
        obtain ⟨Xn, hXn⟩ : ∃ Xn, wr.heap.size = Xn := ⟨_, rfl⟩
        obtain ⟨wA, eA⟩ : ∃ wA, wr.alloc (.cells #[.bool false, .bool false, .bool false, .bool false, .bool false, .bool false, .bool false, .bool false] 42) = wA := ⟨_, rfl⟩
        have A0 : Hid (Blk 42 wA Xn (row8 (nowTo (x.pins.map Option.isSome) 0))) := by
          rw [← eA, ← hXn]
          exact Lib.hid (Blk.new (l := [.bool false, .bool false, .bool false, .bool false, .bool false, .bool false, .bool false, .bool false]))
        have Bb0 : Hid (Below Xn wr wA) := by
          rw [← eA]
          exact Lib.hid ((Below.refl Xn wr).alloc (by omega) _)
        rw [eA, hXn]
        have HX := Lib.hid hXn
        clear eA hXn
        go_wp2_with fail
        go_loopw [11] (fun i wq => ∃ j : Nat, j ≤ 8 ∧ i = .int .i64 j ∧ Hid (Blk 42 wq Xn (row8 (nowTo (x.pins.map Option.isSome) j))) ∧ Hid (Below Xn wr wq)) (fun i _ => 8 - (intOf i).toNat)
        case atStart => exact ⟨0, by omega, rfl, A0, Bb0⟩
        case round =>
          obtain ⟨j, hj, rfl, NX, NB⟩ := hrel
          have NJ := Lib.hid (ST.out.keep (HX.out ▸ NB.out))
          by_cases hjl : j < 8
          · have hat := isPin_at (x := x) (j := j) (by rw [hp8]; exact hjl)
            obtain ⟨p6, hp6⟩ := (by exact ⟨_, List.getElem?_eq_getElem (l := row8 (nowTo (x.pins.map Option.isSome) j)) (i := j) (by rw [List.length_map, nowTo_len hp8 hj]; exact hjl)⟩ : ∃ p6, (row8 (nowTo (x.pins.map Option.isSome) j))[j]? = some p6)
            have c6 := NX.out.at hp6
            have f6 := NX.out.frozen j
            have N6 := Lib.hid (NX.out.set j (.bool (x.pins.map Option.isSome)[j]))
            rw [nowTo_step hp8 hjl] at N6
            have O6 := Lib.hid (only_at ‹World› Xn j (.bool (x.pins.map Option.isSome)[j]))
            have HAT := Lib.hid hat
            generalize (x.pins.map Option.isSome)[j] = bb at N6 O6 HAT
            clear hat hp6
            go_wp2_with fail
            refine (ep_Pinned NJ.out.is.ep (j : Int)).mono ?_
            rintro e w' ⟨rfl, rfl⟩
            rw [HAT.out]
            go_wp2_with fail
            go_roundw
            case rel => exact ⟨j + 1, by omega, by go_num, N6, Lib.hid (Only.below_step (by have := NB.out.size; have := HX.out; omega) NB.out O6.out (fun i hi e => by omega))⟩
            case measure => simp [intOf]; omega
          · obtain rfl : j = 8 := by omega
            have NX8 := NX.out
            rw [nowTo_all hp8] at NX8
            have c1 := NJ.out.is.who.wb.at (o := 0) rfl
            obtain ⟨wa, wc, ew⟩ := own_form NJ.out.is.who.wr
            rw [ew] at c1
            have EW := Lib.hid ew
            have R8 := Lib.hid NX8
            have hwl := ST.out.wl
            clear NX8 ew hjl
            go_wp2_with fail
            refine (ep_Retire NJ.out.is.ep NJ.out.is.below.size (H.length : Int) (Nat.le_trans (NJ.out.z.ag.le (Nat.mod_lt _ (by decide))) (by omega))).mono ?_
            rintro e w6 ⟨⟨rfl, v6, h6, n6⟩, o6⟩
            have M6 := Lib.hid (NJ.out.is.turnEp h6 o6)
            have R6 := Lib.hid (R8.out.only o6 (fun he => by have := ST.out.is.ep.lt he; have := HX.out; omega))
            have c2 := M6.out.who.wb.at (o := 0) rfl
            rw [EW.out] at c2
            have r6 := M6.out.who.wr
            rw [EW.out] at r6
            have RG := Lib.hid (blk_range9 R6.out)
            have hz6 := M6.out.below.size
            obtain ⟨i8, hi8, hy0, hy1, hy2⟩ := info_at infoArr9
            have hh8 : (x.pins.map Option.isSome).length = 8 := hp8
            generalize hhe : x.pins.map Option.isSome = hh at *
            clear h6 n6 o6 c1 hp8
            obtain ⟨p0, p1, p2, p3, p4, p5, p6, p7, rfl⟩ := list8 hh8
            have HHE := Lib.hid hhe
            clear hhe
            have RG2 : Hid (World.rangeAt _ Xn 0 [.bool p0, .bool p1, .bool p2, .bool p3, .bool p4, .bool p5, .bool p6, .bool p7]) := RG
            go_wp2_with (first | ((with_reducible show wpList _ _ _ (⟨some 83, _, _, _, _, _⟩ :: _) _ _); refine wpList_load_mid rfl 42 _ rfl Xn 0 rfl [.bool p0, .bool p1, .bool p2, .bool p3, .bool p4, .bool p5, .bool p6, .bool p7] _ RG2.out Try.underlying42 rfl (show (Try.prog.info? 42).map (·.size) = some 8 by kernel_rfl) ?_) | (at_builtin; (refine wpList_append_lies _ rfl _ _ 40 rfl w1.heap.size 42 i8 (.agg (row8 (List.replicate 8 false)).toArray) 8 8 Try.underlying40 hi8 hy0 hy1 hy2 rfl (by decide) _ _ _ rfl (r6.alloc _) ⟨w6.heap.size, 0, none⟩ 1 1 [.bool p0, .bool p1, .bool p2, .bool p3, .bool p4, .bool p5, .bool p6, .bool p7] rfl rfl (World.news_of_block (Blk.new (l := [.bool p0, .bool p1, .bool p2, .bool p3, .bool p4, .bool p5, .bool p6, .bool p7]))) (by simp [Value.oneCell']) (by decide) (by simp only [maxLen]; omega) (by omega) (by simp; omega) (w6.heap.size + 1) (by simp) ?_); intro g8 cap8 w8 hown8 hgrow8 hlie8 hlt8; rw [← EW.out] at hgrow8; obtain ⟨⟨c9, f9⟩, h9, o9⟩ := M6.out.who.grown (h := [p0, p1, p2, p3, p4, p5, p6, p7]) hh8 hgrow8 hown8; rw [EW.out] at c9; have N9 := Lib.hid (M6.out.turnWho h9 o9); clear hown8 hgrow8 hlie8 hlt8 h9 o9))
            obtain ⟨x9, H9, E9, W9, h9⟩ := ST.out.retire hk3 (HHE.out ▸ N9.out)
            have N10 := Lib.hid h9
            clear h9
            go_roundg (gk - 1)
            case rel => exact ⟨k + 1, _, _, _, _, _, _, _, by omega, by go_num, N10⟩
            case measure => omega
      by_cases k3 : kd = 3
      · subst k3
        cases hbh : behindZ x with
        | true =>
          go_wp2_with fail
          refine (ep_Advance_no ST.out.is.ep (by rw [ST.out.z.pl]; decide) hbh).mono ?_
          rintro e w5 ⟨rfl, hb5⟩
          have N5 := Lib.hid (ST.out.keep hb5)
          clear hb5 hbh
          go_wp2_with fail
          refine (safe_tell (A := []) N5.out.is.who (World.ownsRow_nil _ 0 _ _) trivial (by simp) (by omega)).mono ?_
          rintro e w6 ⟨rfl, h6, o6⟩
          have N6 := Lib.hid (N5.out.who h6 o6).next
          clear h6 o6
          go_wp2_with fail
          go_roundg (gk - 1)
          case rel => exact ⟨k + 1, _, _, _, _, _, _, _, by omega, by go_num, N6⟩
          case measure => omega
        | false =>
          go_wp2_with fail
          refine (ep_Adv ST.out.is.ep (by rw [ST.out.z.pl]; decide) hbh (by have := ST.out.nn; omega)).mono ?_
          rintro e w5 ⟨a5, c5, rfl, hv5, h5⟩
          have M5 := Lib.hid (ST.out.is.turnEp h5.is (h5.only.mono fun j _ e => .inl e))
          have NU := Lib.hid (show w5.ownsRow w1.heap.size 3 1 (.slice a5 (x.q ((x.now + 1) % 3)).length c5) (x.q ((x.now + 1) % 3)).length ((x.q ((x.now + 1) % 3)).map numV) from hv5 ▸ h5.told)
          have OK := Lib.hid (ST.out.z.tell hbh)
          have hql := ST.out.z.ag.le (Nat.mod_lt (x.now + 1) (by decide : 3 > 0))
          have hwl := ST.out.wl
          clear h5 hbh hv5
          go_wp2_with fail
          refine (safe_tell M5.out.who NU.out OK.out (by omega) (by omega)).mono ?_
          rintro e w6 ⟨rfl, h6, o6⟩
          obtain ⟨x6, T6, W6, h7, _, _⟩ := ST.out.adv (M5.out.turnWho h6 (o6.mono fun _ _ e => .inr (.inr (.inl e))))
          have N6 := Lib.hid h7
          clear h6 o6 h7
          go_wp2_with fail
          go_roundg (gk - 1)
          case rel => exact ⟨k + 1, _, _, _, _, _, _, _, by omega, by go_num, N6⟩
          case measure => omega
      have q0 : (kd == 0) = false := by simpa using k0
      have q1 : (kd == 1) = false := by simpa using k1
      have q2 : (kd == 2) = false := by simpa using k2
      have q3 : (kd == 3) = false := by simpa using k3
      clear k0 k1 k2 k3
      go_wp2_with fail
      go_roundg (gk - 1)
      case rel => exact ⟨k + 1, _, _, _, _, _, _, _, by omega, by go_num, Lib.hid ST.out.next⟩
      case measure => omega
    · have HH3 := Lib.hid (show H.length ≤ 300 by have := ST.out.hn; omega)
      have HN3 := Lib.hid (show x.now ≤ 300 by have := ST.out.nn; omega)
      have HW3 := Lib.hid (show W.length ≤ 300 by have := ST.out.wl; omega)
      have hlt' : decide (k < D.length) = false := by simpa using hlt
      have F0 := ST.out.fresh
      have FR := Lib.hid F0
      clear F0 hgk
      go_wp2_with fail
      go_loopw [14] (fun i wq => ∃ (j : Nat) (pins : List (Option Nat)), j ≤ 8 ∧ i = .int .i64 j ∧ Hid (SfIs w1 wq Bp w1.heap.size Gw Gt Rt v ⟨x.now, pins, x.q⟩ wv H T) ∧ Hid (Off pins j)) (fun i _ => 8 - (intOf i).toNat)
      case atStart => exact ⟨0, x.pins, by omega, rfl, Lib.hid ST.out.is, Lib.hid ⟨ST.out.z.pl, fun s hs => by omega⟩⟩
      case round =>
        obtain ⟨j, pins, hj, rfl, NJ, OF⟩ := hrel
        by_cases hjl : j < 8
        · go_wp2_with fail
          refine (ep_Unpin NJ.out.ep (j : Int)).mono ?_
          rintro e w5 ⟨rfl, h5, o5⟩
          have N5 := Lib.hid (NJ.out.turnEp h5 (pinOnly o5))
          clear h5 o5
          go_wp2_with fail
          go_roundw
          case rel => exact ⟨j + 1, _, by omega, by go_num, N5, Lib.hid (OF.out.step hjl)⟩
          case measure => simp [intOf]; omega
        · obtain rfl : j = 8 := by omega
          have c1 := NJ.out.who.wb.at (o := 0) rfl
          have f1 := NJ.out.who.wb.frozen 0
          obtain ⟨wa, wc, ew⟩ := own_form NJ.out.who.wr
          rw [ew] at c1
          have hH3 := HH3.out
          have hmk := run_make_recs (P := Try.prog) Try.underlying40 infoArr9 H.length (by omega) (by omega)
          have M8 := Lib.hid (made_8 H.length)
          generalize madeCells (Value.agg (row8 (List.replicate 8 false)).toArray).cells (H.length * 8) = M at hmk M8
          have c1' := fun ob => (NJ.out.who.wb.alloc ob).at (o := 0) rfl
          have f1' := fun ob => (NJ.out.who.wb.alloc ob).frozen 0
          rw [ew] at c1'
          have hGl := NJ.out.who.wb.lt
          clear ew hjl
          go_upto_region 39 with fail
          obtain ⟨wE, eE⟩ : ∃ wE, (wr.setCell ⟨Gw, 0, none⟩ (.slice (some ⟨wr.heap.size, 0, none⟩) H.length H.length)).alloc (.cells M 42) = wE := ⟨_, rfl⟩
          have N9 := Lib.hid (NJ.out.fresh M8.out (by simp only [maxLen]; omega) eE)
          rw [eE]
          clear eE c1' f1' c1 f1 hmk M8
          have S9 := Lib.hid (SSt.mk (k := 300) N9.out (ST.out.z.rest OF.out (H' := List.replicate H.length (List.replicate 8 false)) (by simp) (fun g hg b hb => by rw [(List.mem_replicate.1 hg).2] at hb; exact (List.mem_replicate.1 hb).2)) (by simp; omega) HN3.out HW3.out (by intro j hj; exact FR.out j (by simpa using hj)))
          have E9 := Lib.hid (show ∀ (k e : Nat), E[k]? = some e → e ≤ x.now from ST.out.z.en)
          have OF9 : Hid (Off (Ep.mk x.now pins x.q).pins 8) := OF
          have hl9 : (List.replicate H.length (List.replicate 8 false)).length = H.length := by simp
          obtain ⟨wv9, hwv9⟩ : ∃ wv9, Value.slice (some ⟨wr.heap.size, 0, none⟩) H.length H.length = wv9 := ⟨_, rfl⟩
          rw [hwv9] at S9
          generalize List.replicate H.length (List.replicate 8 false) = H9 at S9 hl9
          have hH9 : H9.length ≤ 300 := by omega
          have hN3 := HN3.out
          clear hwv9 N9 hl9 ST NJ OF HH3 HW3 FR hGl
          go_wp2_with fail
          go_loopw [15] (fun i wq => ∃ (j : Nat) (v : Nat → Value) (x' : Ep) (T' : List Bool) (W' : List (Int × Nat)), j ≤ 3 ∧ i = .int .i64 j ∧ Hid (SSt w1 wq Bp w1.heap.size Gw Gt Rt v x' wv9 H9 E T' W' (300 + j)) ∧ Hid (Off x'.pins 8) ∧ Hid (x'.now = x.now + j)) (fun i _ => 3 - (intOf i).toNat)
          case atStart => exact ⟨0, _, _, _, _, by omega, rfl, S9, OF9, Lib.hid rfl⟩
          case round =>
            obtain ⟨j, v, x', T', W', hj, rfl, SJ, OJ, NJ⟩ := hrel
            by_cases hjl : j < 3
            · have hbh := OJ.out.behind
              have hnn : x'.now ≤ 1000000 := by have := NJ.out; omega
              go_wp2_with fail
              refine (ep_Adv SJ.out.is.ep (by rw [SJ.out.z.pl]; decide) hbh hnn).mono ?_
              rintro e w5 ⟨a5, c5, rfl, hv5, h5⟩
              have M5 := Lib.hid (SJ.out.is.turnEp h5.is (h5.only.mono fun j _ e => .inl e))
              have NU := Lib.hid (show w5.ownsRow w1.heap.size 3 1 (.slice a5 (x'.q ((x'.now + 1) % 3)).length c5) (x'.q ((x'.now + 1) % 3)).length ((x'.q ((x'.now + 1) % 3)).map numV) from hv5 ▸ h5.told)
              have OK := Lib.hid (SJ.out.z.tell hbh)
              have hql := SJ.out.z.ag.le (Nat.mod_lt (x'.now + 1) (by decide : 3 > 0))
              have hwl := SJ.out.wl
              clear h5 hbh hv5
              go_wp2_with fail
              refine (safe_tell M5.out.who NU.out OK.out (by omega) hH9).mono ?_
              rintro e w6 ⟨rfl, h6, o6⟩
              obtain ⟨x6, T6, W6, h7, hp7, hn7⟩ := SJ.out.adv (M5.out.turnWho h6 (o6.mono fun _ _ e => .inr (.inr (.inl e))))
              have N6 := Lib.hid h7
              have OP := OJ.out
              rw [← hp7] at OP
              have P7 := Lib.hid OP
              have Q7 := Lib.hid (show x6.now = x.now + (j + 1 : Nat) by have := NJ.out; rw [hn7]; omega)
              clear h6 o6 h7 hp7 hn7 OP
              go_wp2_with fail
              go_roundw
              case rel => exact ⟨j + 1, _, _, _, _, by omega, by go_num, N6, P7, Q7⟩
              case measure => simp [intOf]; omega
            · obtain rfl : j = 3 := by omega
              have hW' := SJ.out.z.done NJ.out E9.out
              subst hW'
              obtain ⟨wa, wc, ew⟩ := own_form SJ.out.is.who.wr
              have c1 := SJ.out.is.who.wb.at (o := 0) rfl
              rw [ew] at c1
              have c2 := SJ.out.is.who.tb.at (o := 0) rfl
              clear ew hjl
              go_wp2_with fail
              go_loopw [18] (fun i wq => ∃ (j n : Nat), j ≤ H9.length ∧ i = .int .i64 j ∧ wq = wr.drewN n) (fun i _ => H9.length - (intOf i).toNat)
              case atStart => exact ⟨0, 0, Nat.zero_le _, rfl, rfl⟩
              case round =>
                obtain ⟨j, n, hj, rfl, rfl⟩ := hrel
                by_cases hjl : j < H9.length
                · have hT := SJ.out.z.all hjl hH9
                  have c3 := SJ.out.is.who.told hT
                  have hj3 : j < 300 := by omega
                  clear hT
                  go_wp2_with fail
                  go_roundw
                  case rel => exact ⟨j + 1, _, by omega, by go_num, rfl⟩
                  case measure => simp [intOf]; omega
                · obtain rfl : j = H9.length := by omega
                  have SZ := Lib.hid (SJ.out.drewN n)
                  have hwt := ep_Waiting SZ.out.is.ep (fun j hj => Nat.le_trans (SZ.out.z.ag.le hj) (by simp))
                  rw [SZ.out.z.ag.count] at hwt
                  have HWT := Lib.hid hwt
                  clear hwt
                  go_wp2_with fail
                  refine HWT.out.mono ?_
                  rintro e w' ⟨rfl, rfl⟩
                  go_wp2
                  go_ret
                  exact ⟨rfl, B1.out.trans (SZ.out.is.below.mono B1.out.size)⟩

end Go.Proofs.Ytkbappdlijmjlaa
