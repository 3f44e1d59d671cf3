/- RingOrder: the ring, what was put, what was got. -/
import Derived.Test.YtmonfkiakjaimaaRingN11
import Derived.Test.YtmonfkiakjaimaaIntsRef
import Derived.Test.YtmonfkiakjaimaaLists
import Derived.Deep.AppendLies
import Derived.Deep.CutRange
namespace Go.Proofs.Ytmonfkiakjaimaa
open Go.RowKit

/-- A ring and two rows of numbers, apart. -/
structure OM (w1 w : World) (B S : Nat) (iv ov : Value) (x : Rg) (I O : List Int) : Prop where
  rg : RgIs w B S x
  inr : w.ownsRow w1.heap.size 3 1 iv I.length (I.map numV)
  outr : w.ownsRow w1.heap.size 3 1 ov O.length (O.map numV)
  sep : ∀ g, iv.ownBlock = some g → ov.ownBlock = some g → False
  below : Below w1.heap.size w1 w
  lows : w1.heap.size ≤ B ∧ w1.heap.size ≤ S
section
variable {w1 w w' w5 : World} {B S k g' cap' : Nat} {iv ov : Value} {x x' : Rg} {I O : List Int} {ob : Obj} {y : Int}
theorem OM.notRow (h : OM w1 w B S iv ov x I O) {k : Nat} (hk : iv.ownBlock = some k ∨ ov.ownBlock = some k) : ¬ RgBlk B S k := by
  rintro (rfl | rfl)
  · rcases hk with e | e
    · exact blk_apart h.rg.blk h.inr e (by decide) rfl
    · exact blk_apart h.rg.blk h.outr e (by decide) rfl
  · rcases hk with e | e
    · exact blk_apart h.rg.row h.inr e (by decide) rfl
    · exact blk_apart h.rg.row h.outr e (by decide) rfl
theorem OM.keep (h : OM w1 w B S iv ov x I O) (hb : Below w.heap.size w w') : OM w1 w' B S iv ov x I O := by
  have ho := Only.of_below hb (fun _ => False)
  exact ⟨h.rg.below hb, own_only h.inr ho (fun _ _ h => h), own_only h.outr ho (fun _ _ h => h), h.sep, h.below.trans (hb.mono h.below.size), h.lows⟩
theorem OM.turn (h : OM w1 w B S iv ov x I O) (h1 : RgIs w' B S x') (ho : Only (RgBlk B S) w w') : OM w1 w' B S iv ov x' I O :=
  ⟨h1, own_only h.inr ho (fun _ hk => h.notRow (.inl hk)), own_only h.outr ho (fun _ hk => h.notRow (.inr hk)), h.sep, Only.below_step h.below.size h.below ho (fun i hi e => by rcases e with rfl | rfl <;> (have := h.lows; omega)), h.lows⟩
theorem OM.growI (h : OM w1 w B S iv ov x I O) (hgrow : (w.alloc ob).grownBy w5 iv.ownBlock) (hlie : iv.ownBlock = some g' ∨ g' = w.heap.size + 1)
    (hown : w5.ownsRow w1.heap.size 3 1 (.slice (some ⟨g', 0, none⟩) (I.length + 1) cap') (I.length + 1) (I.map numV ++ [numV y])) : OM w1 w5 B S (.slice (some ⟨g', 0, none⟩) (I.length + 1) cap') ov x (I ++ [y]) O := by
  have ho : Only (fun k => iv.ownBlock = some k) w w5 := ((Only.refl _ w).alloc ob).trans (grown_only hgrow)
  refine ⟨h.rg.only ho (fun k hk e => h.notRow (.inl e) hk), ?_, own_only h.outr ho (fun k hk e => h.sep k e hk), fun g hg hg2 => ?_, Only.below_step h.below.size h.below ho (fun i hi e => by have := own_base3 h.inr i e; omega), h.lows⟩
  · rw [List.length_append, List.map_append]; exact hown
  · simp only [Value.ownBlock, Option.some.injEq] at hg
    subst hg
    rcases hlie with e | e
    · exact h.sep _ e hg2
    · have := (h.outr.lt _ hg2).2; omega
theorem OM.growO (h : OM w1 w B S iv ov x I O) (hgrow : (w.alloc ob).grownBy w5 ov.ownBlock) (hlie : ov.ownBlock = some g' ∨ g' = w.heap.size + 1)
    (hown : w5.ownsRow w1.heap.size 3 1 (.slice (some ⟨g', 0, none⟩) (O.length + 1) cap') (O.length + 1) (O.map numV ++ [numV y])) : OM w1 w5 B S iv (.slice (some ⟨g', 0, none⟩) (O.length + 1) cap') x I (O ++ [y]) := by
  have ho : Only (fun k => ov.ownBlock = some k) w w5 := ((Only.refl _ w).alloc ob).trans (grown_only hgrow)
  refine ⟨h.rg.only ho (fun k hk e => h.notRow (.inr e) hk), own_only h.inr ho (fun k hk e => h.sep k hk e), ?_, fun g hg hg2 => ?_, Only.below_step h.below.size h.below ho (fun i hi e => by have := own_base3 h.outr i e; omega), h.lows⟩
  · rw [List.length_append, List.map_append]; exact hown
  · simp only [Value.ownBlock, Option.some.injEq] at hg2
    subst hg2
    rcases hlie with e | e
    · exact h.sep _ hg e
    · have := (h.inr.lt _ hg).2; omega
/-- Where the loop stands. -/
structure OSt (w1 w : World) (B S : Nat) (iv ov : Value) (x : Rg) (I O : List Int) (k : Nat) : Prop where
  om : OM w1 w B S iv ov x I O
  eq : O ++ x.L = I
  gk : x.g ≤ k
  dk : x.d ≤ k
  ik : I.length ≤ k
theorem ost_start {w2 : World} {m : Nat} (h1 : RgIs w2 B S ⟨m, 0, 0, []⟩) (hB : w1.heap.size ≤ B) (hS : w1.heap.size ≤ S) (b1 : Below w1.heap.size w1 w2) : OSt w1 w2 B S (.slice none 0 0) (.slice none 0 0) ⟨m, 0, 0, []⟩ [] [] 0 :=
  ⟨⟨h1, World.ownsRow_nil _ _ _ _, World.ownsRow_nil _ _ _ _, fun g hg => by simp [Value.ownBlock] at hg, b1, ⟨hB, hS⟩⟩, rfl, by simp, by simp, by simp⟩
theorem OSt.ok (h : OSt w1 w B S iv ov x I O k) : O.length ≤ k := by
  have h1 := h.ik
  rw [← h.eq, List.length_append] at h1
  omega
theorem OSt.none (h : OSt w1 w B S iv ov x I O k) (n : Nat) : OSt w1 (w.drewN n) B S iv ov x I O (k + 1) := ⟨h.om.keep (below_draws (Below.refl _ _) n), h.eq, Nat.le_succ_of_le h.gk, Nat.le_succ_of_le h.dk, Nat.le_succ_of_le h.ik⟩
theorem OSt.drop (h : OSt w1 w B S iv ov x I O k) (h1 : OM w1 w' B S iv ov (dropZ x) I O) : OSt w1 w' B S iv ov (dropZ x) I O (k + 1) := ⟨h1, h.eq, Nat.le_succ_of_le h.gk, Nat.succ_le_succ h.dk, Nat.le_succ_of_le h.ik⟩
theorem OSt.put {iv' : Value} (h : OSt w1 w B S iv ov x I O k) (h1 : OM w1 w' B S iv' ov (putZ x y) (I ++ [y]) O) : OSt w1 w' B S iv' ov (putZ x y) (I ++ [y]) O (k + 1) :=
  ⟨h1, by show O ++ (x.L ++ [y]) = _; rw [← List.append_assoc, h.eq], Nat.le_succ_of_le h.gk, Nat.le_succ_of_le h.dk, by have := h.ik; simp; omega⟩
theorem OSt.got {ov' : Value} {L : List Int} (h : OSt w1 w B S iv ov x I O k) (hL : x.L = y :: L) (h1 : OM w1 w' B S iv ov' (gotZ x) I (O ++ [y])) : OSt w1 w' B S iv ov' (gotZ x) I (O ++ [y]) (k + 1) :=
  ⟨h1, by show (O ++ [y]) ++ x.L.tail = _; rw [← h.eq, hL]; simp, Nat.succ_le_succ h.gk, Nat.le_succ_of_le h.dk, Nat.le_succ_of_le h.ik⟩
end
theorem ref_Ints_same2 (u v : Value) (A A' : List Int) (he : A = A') (w : World) (hu : NumsIn w u A) (hv : NumsIn w v A') (hA : A.length ≤ 1000000) :
    Calls Try.prog 19 #[u, v] w fun e w' => e = .returned (.bool true) ∧ Below w.heap.size w w' := by
  subst he
  exact (ref_Ints u v A A w hu hv hA hA).mono fun e w' ⟨h1, h2⟩ => ⟨by rw [h1]; simp, h2⟩
set_option maxRecDepth 100000 in
set_option maxHeartbeats 4000000 in
theorem order11 (n : Int) (hn0 : 0 ≤ n) (hn1 : n ≤ 255) (a : Option Addr) (cap : Nat) (D : List Bool) (w : World) (ht : ListIn Value.bool w a D) :
    Calls Try.prog 4 #[.int .u8 n, .slice a D.length cap] w fun e w' => e = .returned (.bool true) ∧ Below w.heap.size w w' := by
  obtain ⟨i0, hi, hz0, hz1, hz2⟩ := info_at infoInt
  have T := Lib.hid ht
  clear ht
  by_cases hbig : 500 < D.length
  · go_enter Try.func4, Try.ntmps4
    go_wp2_with fail
    refine (awake11 w).mono ?_
    rintro e w1 ⟨rfl, hb⟩
    have B1 := Lib.hid hb
    clear hb
    go_wp2
    go_ret
    exact ⟨rfl, B1.out⟩
  have hd : decide (500 < D.length) = false := by simpa using hbig
  go_enter Try.func4, Try.ntmps4
  go_wp2_with fail
  refine (awake11 w).mono ?_
  rintro e w1 ⟨rfl, hb⟩
  have B1 := Lib.hid hb
  have T1 := Lib.hid (T.out.below hb)
  clear hb T
  go_wp2_with fail
  refine (rg_New n w1).mono ?_
  rintro e w2 ⟨rfl, h2, hb2⟩
  have S3 := Lib.hid (ost_start h2 (by omega) (Nat.le_refl _) hb2)
  obtain ⟨S, hS⟩ : ∃ S, w1.heap.size = S := ⟨_, rfl⟩
  obtain ⟨B, hB⟩ : ∃ B, w1.heap.size + 1 = B := ⟨_, rfl⟩
  have S4 : Hid (OSt w1 w2 B S (.slice none 0 0) (.slice none 0 0) ⟨limR n, 0, 0, []⟩ [] [] 0) := by rw [← hB, ← hS]; exact S3
  rw [hB]
  clear h2 hb2 hS hB S3
  go_wp2_with fail
  go_loopg [6, 7, 8, 9] D.length (fun g u6 u7 u8 i wr => ∃ (k : Nat) (x : Rg) (I O : List Int) (ia oa : Option Addr) (ic oc : Nat), k + g = D.length ∧ i = .int .i64 k ∧ u6 = .slice ia I.length ic ∧ u7 = .slice oa O.length oc ∧ u8 = .int .i64 x.d ∧ Hid (OSt w1 wr B S (.slice ia I.length ic) (.slice oa O.length oc) x I O k))
  case atStart => exact ⟨0, _, [], [], none, none, 0, 0, by omega, rfl, rfl, rfl, rfl, S4⟩
  case round =>
    obtain ⟨k, x, I, O, ia, oa, ic, oc, hk, rfl, rfl, rfl, rfl, ST⟩ := hrel
    have HK := Lib.hid hk
    have hk5 : k ≤ 500 := by omega
    have hI := ST.out.ik
    have hO := ST.out.ok
    have hdd := ST.out.dk
    clear S4
    by_cases hlt : k < D.length
    · obtain ⟨b, off, rfl, hb, hx⟩ := T1.out.at k hlt
      have x0 := (ST.out.om.below.cell (p := ⟨b, off + k, none⟩) hb).trans hx
      generalize D[k] = v at *
      clear hx hk
      cases v with
      | true =>
        by_cases hl : x.L.length < x.n
        · go_wp2_with fail
          refine (rg_Put_yes ST.out.om.rg (by have := ST.out.gk; omega) hl (k : Int)).mono ?_
          rintro e w5 ⟨rfl, h5, o5⟩
          have M5 := Lib.hid (ST.out.om.turn h5 o5)
          have r5 := M5.out.inr
          clear h5 o5 hl
          go_wp2_with (at_builtin; (refine wpList_append_lies _ rfl _ _ 22 rfl w1.heap.size 3 i0 (.int .i64 0) 1 8 Try.underlying22 hi hz0 hz1 hz2 rfl (by decide) _ _ _ rfl (r5.alloc _) ⟨w5.heap.size, 0, none⟩ 1 1 [.int .i64 (k : Int)] rfl rfl (cell_one_new _ _ _) (by simp [Value.oneCell']) (by decide) (by simp only [maxLen]; omega) (by first | omega | (simp; omega) | simp) (by first | omega | (have := M5.out.below.size; simp; omega) | simp) (w5.heap.size + 1) (by simp) ?_); intro g' cap' w9 hown' hgrow hlie hlt'; have N6 := Lib.hid (ST.out.put (M5.out.growI hgrow hlie hown')); clear hown' hgrow hlie hlt')
          have hgk := HK.out
          go_roundg (gk - 1)
          case rel => exact ⟨k + 1, putZ x k, I ++ [(k : Int)], O, some ⟨g', 0, none⟩, oa, cap', oc, by omega, by go_num, by simp, rfl, rfl, by simpa using N6⟩
          case measure => omega
        · have hl' : x.L.length = x.n := by have := ST.out.om.rg.ok.fit; omega
          go_wp2_with fail
          refine (rg_Put_no ST.out.om.rg (by have := ST.out.gk; omega) (by omega) hl' (k : Int)).mono ?_
          rintro e w5 ⟨rfl, h5, o5⟩
          have N6 := Lib.hid (ST.out.drop (ST.out.om.turn h5 o5))
          have hd2 : (x.d : Int) ≤ 500 := by omega
          clear h5 o5 hl hl'
          go_wp2_with fail
          have hgk := HK.out
          go_roundg (gk - 1)
          case rel => exact ⟨k + 1, dropZ x, I, O, ia, oa, ic, oc, by omega, by go_num, rfl, rfl, by simp [dropZ], N6⟩
          case measure => omega
      | false =>
        rcases hxl : x.L with _ | ⟨u, L⟩
        · go_wp2_with fail
          refine (rg_Get_no ST.out.om.rg (by have := ST.out.gk; omega) hxl).mono ?_
          rintro e w5 ⟨rfl, n5, rfl⟩
          go_wp2_with fail
          have hgk := HK.out
          go_roundg (gk - 1)
          case rel => exact ⟨k + 1, x, I, O, ia, oa, ic, oc, by omega, by go_num, rfl, rfl, rfl, Lib.hid (ST.out.none n5)⟩
          case measure => omega
        · have HL := Lib.hid hxl
          go_wp2_with fail
          refine (rg_Get_yes ST.out.om.rg (by have := ST.out.gk; omega) hxl).mono ?_
          rintro e w5 ⟨rfl, h5, o5⟩
          have M5 := Lib.hid (ST.out.om.turn h5 o5)
          have r5 := M5.out.outr
          clear h5 o5 hxl
          go_wp2_with (at_builtin; (refine wpList_append_lies _ rfl _ _ 22 rfl w1.heap.size 3 i0 (.int .i64 0) 1 8 Try.underlying22 hi hz0 hz1 hz2 rfl (by decide) _ _ _ rfl (r5.alloc _) ⟨w5.heap.size, 0, none⟩ 1 1 [.int .i64 u] rfl rfl (cell_one_new _ _ _) (by simp [Value.oneCell']) (by decide) (by simp only [maxLen]; omega) (by first | omega | (simp; omega) | simp) (by first | omega | (have := M5.out.below.size; simp; omega) | simp) (w5.heap.size + 1) (by simp) ?_); intro g' cap' w9 hown' hgrow hlie hlt'; have N6 := Lib.hid (ST.out.got HL.out (M5.out.growO hgrow hlie hown')); clear hown' hgrow hlie hlt')
          have hgk := HK.out
          go_roundg (gk - 1)
          case rel => exact ⟨k + 1, gotZ x, I, O ++ [u], ia, some ⟨g', 0, none⟩, ic, cap', by omega, by go_num, rfl, by simp, rfl, by simpa using N6⟩
          case measure => omega
    · obtain rfl : k = D.length := by omega
      go_upto_region 18 with fail
      go_wp2_with fail
      refine (law_list11 ST.out.om.rg (by have := ST.out.gk; omega)).mono ?_
      rintro e w5 ⟨r, rfl, hr, hb5⟩
      have E5 := Lib.hid (ST.out.om.keep hb5)
      have hxl : x.L.length ≤ 1024 := by have h1 := ST.out.om.rg.ok.fit; have h2 := ST.out.om.rg.ok.most; omega
      obtain ⟨v', w6, hrun, hown, hgr⟩ := run_append_any w5 w1.heap.size 22 (.slice oa O.length oc) r O x.L E5.out.outr hr (by omega) E5.out.below.size
      have HR := Lib.hid hrun
      have oG := grown_only hgr
      have rI : NumsIn w6 (.slice ia I.length ic) I := SliceK.of_own (own_only E5.out.inr oG (fun k hk e => E5.out.sep k hk e))
      have rA : NumsIn w6 v' (O ++ x.L) := SliceK.of_own hown
      have rg6 : RgIs w6 B S x := E5.out.rg.only oG (fun k hk e => E5.out.notRow (.inr e) hk)
      have b6 : Below w1.heap.size w1 w6 := Only.below_step E5.out.below.size E5.out.below oG (fun i hi e => by have := own_base3 E5.out.outr i e; omega)
      have RR := Lib.hid (And.intro rI (And.intro rA (And.intro rg6 b6)))
      clear hr hb5 hrun hown hgr oG rI rA rg6 b6
      go_wp2_with (at_builtin; refine wpList_append_run rfl _ _ 22 rfl _ _ _ _ rfl rfl HR.out ?_)
      refine (ref_Ints_same2 _ _ _ _ ST.out.eq w6 RR.out.2.1 RR.out.1 (by simp; omega)).mono ?_
      rintro e w7 ⟨rfl, hb7⟩
      have R7 := Lib.hid (RR.out.2.2.1.below hb7)
      have B7 := Lib.hid (RR.out.2.2.2.trans (hb7.mono RR.out.2.2.2.size))
      clear hb7
      go_wp2_with fail
      refine (rg_Drops R7.out).mono ?_
      rintro e w' ⟨rfl, rfl⟩
      go_wp2_with fail
      refine (rg_Len R7.out (by have := ST.out.gk; omega)).mono ?_
      rintro e w8 ⟨rfl, n8, rfl⟩
      go_wp2_with fail
      refine (rg_Cap (R7.out.drewN n8)).mono ?_
      rintro e w' ⟨rfl, rfl⟩
      have hfit : x.L.length ≤ x.n := ST.out.om.rg.ok.fit
      go_wp2
      go_ret
      exact ⟨by simp, B1.out.trans ((below_draws B7.out n8).mono B1.out.size)⟩

end Go.Proofs.Ytmonfkiakjaimaa
