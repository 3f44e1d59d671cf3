/- Layer 9: the example; EpochNone's walk. -/
import Derived.Test.YtkbappdlijmjlaaEpochC9
import Derived.Test.YtkbappdlijmjlaaIntsRef
namespace Go.Proofs.Ytkbappdlijmjlaa
open Go.RowKit

/-- A row of one's own, as numbers. -/
theorem own_nums {w : World} {lo : Nat} {v : Value} {L : List Int} (h : w.ownsRow lo 3 1 v L.length (L.map numV)) : NumsIn w v L := SliceK.of_own h
theorem ep_Adv {w : World} {lo B P : Nat} {v : Nat → Value} {x : Ep} (h : EpIs w lo B P v x) (hl : x.pins.length ≤ 64) (hb : behindZ x = false) (hnow : x.now ≤ 1000000) : Calls Try.prog 15 #[.pointer (some ⟨B, 0, none⟩)] w fun e w' =>
    ∃ a c, e = .returned (.tuple #[.slice a (x.q ((x.now + 1) % 3)).length c, .bool true]) ∧ v ((x.now + 1) % 3) = .slice a (x.q ((x.now + 1) % 3)).length c ∧ AdvTo lo B P v x w w' := by
  obtain ⟨a, c, e⟩ := own_form (h.own.own _ (Nat.mod_lt (x.now + 1) (by decide : 3 > 0)))
  refine (ep_Advance_yes h hl hb hnow).mono ?_
  rintro e' w' ⟨rfl, h'⟩
  exact ⟨a, c, by rw [e], e, h'⟩
theorem nums_new (W : World) (L : List Int) : NumsIn (W.alloc (.cells (L.map numV).toArray 3)) (.slice (some ⟨W.heap.size, 0, none⟩) L.length L.length) L :=
  ⟨by simp, .inr ⟨_, 0, _, rfl, Nat.le_refl _, by simp, fun j v hv => by rw [Nat.zero_add]; exact (Blk.new (t := 3) (l := L.map numV)).at hv⟩⟩
set_option maxHeartbeats 2000000 in
theorem awake9 (w : World) : Calls Try.prog 6 #[] w fun e w' => e = .returned (.bool true) ∧ Below w.heap.size w w' := by
  go_enter Try.func6, Try.ntmps6
  go_wp2_with fail
  refine (ep_New 1 w).mono ?_
  rintro e w1 ⟨rfl, h1, b1⟩
  rw [show thr 1 = 1 from rfl] at h1
  have H1 := Lib.hid h1
  have B1 := Lib.hid b1
  have hs1 := h1.blk.lt
  clear h1 b1
  go_wp2_with fail
  refine (ep_Retire H1.out B1.out.size 7 (by simp)).mono ?_
  rintro e w2 ⟨⟨rfl, v2, h2, _⟩, o2⟩
  have H2 : Hid (EpIs w2 w.heap.size (w.heap.size + 1) w.heap.size v2 ⟨0, [none], upd (fun _ => []) 0 [7]⟩) := Lib.hid h2
  have B2 := Lib.hid (Only.below_step (by have := B1.out.size; omega) B1.out o2 (fun i hi e => by
    rcases e with e | e | ⟨j, hj, e⟩
    · omega
    · omega
    · simp [Value.ownBlock] at e))
  have hs2 := o2.size
  clear h2 o2
  go_wp2_with fail
  refine (ep_Adv H2.out (by simp) (by rfl) (by simp)).mono ?_
  rintro e w3 ⟨a3, c3, he, _, h3⟩
  replace he : e = .returned (.tuple #[.slice a3 0 c3, .bool true]) := he
  subst he
  have H3 : Hid (EpIs w3 w.heap.size (w.heap.size + 1) w.heap.size (upd v2 1 (.slice none 0 0)) ⟨1, [none], upd (upd (fun _ => []) 0 [7]) 1 []⟩) := Lib.hid h3.is
  have B3 := Lib.hid (Only.below_step (by omega) B2.out h3.only (fun i hi e => by omega))
  have hs3 := h3.only.size
  clear h3
  go_wp2_with fail
  refine (ep_Adv H3.out (by simp) (by rfl) (by simp)).mono ?_
  rintro e w4 ⟨a4, c4, he, _, h4⟩
  replace he : e = .returned (.tuple #[.slice a4 0 c4, .bool true]) := he
  subst he
  have H4 : Hid (EpIs w4 w.heap.size (w.heap.size + 1) w.heap.size (upd (upd v2 1 (.slice none 0 0)) 2 (.slice none 0 0)) ⟨2, [none], upd (upd (upd (fun _ => []) 0 [7]) 1 []) 2 []⟩) := Lib.hid h4.is
  have B4 := Lib.hid (Only.below_step (by omega) B3.out h4.only (fun i hi e => by omega))
  have hs4 := h4.only.size
  clear h4
  go_wp2_with fail
  refine (ep_Adv H4.out (by simp) (by rfl) (by simp)).mono ?_
  rintro e w5 ⟨a5, c5, he, hv5, h5⟩
  replace he : e = .returned (.tuple #[.slice a5 1 c5, .bool true]) := he
  replace hv5 : v2 0 = .slice a5 1 c5 := hv5
  subst he
  have N5 : Hid (NumsIn w5 (.slice a5 1 c5) [7]) := Lib.hid (by have := own_nums h5.told; rwa [show (upd (upd v2 1 (.slice none 0 0)) 2 (.slice none 0 0)) ((2 + 1) % 3) = v2 0 from rfl, hv5] at this)
  have B5 := Lib.hid (Only.below_step (by omega) B4.out h5.only (fun i hi e => by omega))
  have hs5 := h5.only.size
  clear h5 hv5
  go_wp2_with fail
  refine (ref_Ints _ _ [7] [7] _ (N5.out.below ((Below.refl _ _).alloc (Nat.le_refl _) _)) (nums_new w5 [7]) (by simp) (by simp)).mono ?_
  rintro e w6 ⟨rfl, hb6⟩
  have B6 := Lib.hid ((B5.out.alloc (by omega) (.cells #[.int .i64 7] 3)).trans (hb6.mono (by simp; omega)))
  clear hb6
  go_wp2
  go_ret
  exact ⟨rfl, B6.out⟩

set_option maxHeartbeats 1000000 in
theorem none9 (t x : Int) (w : World) : Calls Try.prog 5 #[.int .i64 t, .int .i64 x] w fun e w' => e = .returned (.bool true) ∧ Below w.heap.size w w' := by
  go_enter Try.func5, Try.ntmps5
  go_wp2_with fail
  refine (awake9 w).mono ?_
  rintro e w1 ⟨rfl, hb⟩
  have B1 := Lib.hid hb
  clear hb
  go_wp2_with fail
  refine (ep_Retire_nil x w1).mono ?_
  rintro e w' ⟨rfl, rfl⟩
  go_wp2_with fail
  refine (ep_Advance_nil w1).mono ?_
  rintro e w' ⟨rfl, rfl⟩
  go_wp2_with fail
  refine (ep_Pin_nil t w1).mono ?_
  rintro e w' ⟨rfl, rfl⟩
  go_wp2_with fail
  refine (ep_Unpin_nil t w1).mono ?_
  rintro e w' ⟨rfl, rfl⟩
  go_wp2_with fail
  refine (ep_Pinned_nil t w1).mono ?_
  rintro e w' ⟨rfl, rfl⟩
  go_wp2_with fail
  refine (ep_Now_nil w1).mono ?_
  rintro e w' ⟨rfl, rfl⟩
  go_wp2_with fail
  refine (ep_Waiting_nil w1).mono ?_
  rintro e w' ⟨rfl, rfl⟩
  go_wp2
  go_ret
  exact ⟨rfl, B1.out⟩

end Go.Proofs.Ytkbappdlijmjlaa
