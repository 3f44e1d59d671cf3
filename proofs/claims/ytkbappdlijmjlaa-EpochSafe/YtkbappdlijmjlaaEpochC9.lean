/- Layer 9 (package epoch): behind, Retire, Advance. -/
import Derived.Test.YtkbappdlijmjlaaEpochB9
namespace Go.Proofs.Ytkbappdlijmjlaa
open Go.RowKit

theorem any_take {α : Type} {L : List α} {f : α → Bool} {k : Nat} (hk : k < L.length) : (L.take (k + 1)).any f = ((L.take k).any f || f L[k]) := by
  rw [List.take_succ_eq_append_getElem hk, List.any_append]; simp
def lateZ (n : Nat) (p : Option Nat) : Bool := p.isSome && !decide (p.getD 0 = n)
theorem behind_eq (x : Ep) : behindZ x = x.pins.any (lateZ x.now) := rfl
set_option maxHeartbeats 1000000 in
theorem ep_behind {w : World} {lo B P : Nat} {v : Nat → Value} {x : Ep} (h : EpIs w lo B P v x) (hl : x.pins.length ≤ 64) : Calls Try.prog 25 #[.pointer (some ⟨B, 0, none⟩)] w fun e w' => e = .returned (.bool (behindZ x)) ∧ Below w.heap.size w w' := by
  have c1 := h.blk.at (o := 1) rfl
  have H := Lib.hid h
  clear h
  go_enter Try.func25, Try.ntmps25
  go_wp2_with fail
  go_loopw [10] (fun i wr => ∃ k : Nat, k ≤ x.pins.length ∧ i = .int .i64 k ∧ (x.pins.take k).any (lateZ x.now) = false ∧ Hid (Below w.heap.size w wr)) (fun i _ => x.pins.length - (intOf i).toNat)
  case atStart => exact ⟨0, Nat.zero_le _, rfl, by simp, Lib.hid (Below.refl _ _)⟩
  case round =>
    obtain ⟨k, hk, rfl, hany, hb⟩ := hrel
    by_cases hlt : k < x.pins.length
    · have hr := H.out.below hb.out
      obtain ⟨c2, c3⟩ := hr.pin (List.getElem?_eq_getElem hlt)
      have hat := any_take (f := lateZ x.now) hlt
      rw [hany, Bool.false_or] at hat
      have HA := Lib.hid hat
      have H2 := Lib.hid hr
      clear hat hr
      generalize x.pins[k] = p at c2 c3 HA
      go_wp2_with fail
      have hb4 : Below w.heap.size w (wr.alloc (.cells #[.bool p.isSome, .int .i64 ((p.getD 0 : Nat) : Int)] 51)) := hb.out.alloc hb.out.size _
      have k4 : Blk 51 (wr.alloc (.cells #[.bool p.isSome, .int .i64 ((p.getD 0 : Nat) : Int)] 51)) wr.heap.size [.bool p.isSome, .int .i64 ((p.getD 0 : Nat) : Int)] := Blk.new
      generalize (wr.alloc (.cells #[.bool p.isSome, .int .i64 ((p.getD 0 : Nat) : Int)] 51)) = w4 at hb4 k4 ⊢
      have c5 := k4.at (o := 0) rfl
      have c6 := k4.at (o := 1) rfl
      have c7 := (H.out.below hb4).blk.at (o := 0) rfl
      have B4 := Lib.hid hb4
      clear c2 c3 k4 hb4 H2
      cases p with
      | none =>
        simp only [Option.isSome_none] at c5
        go_quiet (fail)
        go_wp2
        go_roundw
        case rel => exact ⟨k + 1, by omega, by go_num, by rw [HA.out]; rfl, Lib.hid (by first | exact B4.out | exact below_draws B4.out _)⟩
        case measure => simp [intOf]; omega
      | some e =>
        simp only [Option.isSome_some, Option.getD_some] at c5 c6
        by_cases he : e = x.now
        · subst he
          go_quiet (fail)
          go_wp2
          go_roundw
          case rel => exact ⟨k + 1, by omega, by go_num, by rw [HA.out]; simp [lateZ], Lib.hid (by first | exact B4.out | exact below_draws B4.out _)⟩
          case measure => simp [intOf]; omega
        · have he1 : ((e : Int) == (x.now : Int)) = false := by simpa using (by omega : ¬ (e : Int) = (x.now : Int))
          have he2 : behindZ x = true := by
            have h1 : (x.pins.take (k + 1)).any (lateZ x.now) = true := by rw [HA.out]; simp [lateZ, he]
            rw [behind_eq]
            obtain ⟨p, hp, hq⟩ := List.any_eq_true.1 h1
            exact List.any_eq_true.2 ⟨p, List.mem_of_mem_take hp, hq⟩
          have HE2 := Lib.hid he2
          clear he HA he2
          go_quiet (fail)
          go_wp2
          go_ret
          exact ⟨by rw [HE2.out]; rfl, by first | exact B4.out | exact below_draws B4.out _⟩
    · obtain rfl : k = x.pins.length := by omega
      rw [List.take_length] at hany
      go_wp2
      go_ret
      exact ⟨by rw [behind_eq, hany]; rfl, hb.out⟩
section
variable {w : World} {lo B P : Nat} {v : Nat → Value} {x : Ep}
theorem EpIs.grown {w5 : World} {ob : Obj} {g' cap' j : Nat} {y : Int} (h : EpIs w lo B P v x) (hj : j < 3) (hgrow : (w.alloc ob).grownBy w5 (v j).ownBlock) (hlie : (v j).ownBlock = some g' ∨ g' = w.heap.size + 1)
    (hown : w5.ownsRow lo 3 1 (.slice (some ⟨g', 0, none⟩) ((x.q j).length + 1) cap') ((x.q j).length + 1) ((x.q j).map numV ++ [numV y])) :
    (w5.cell? ⟨B, 2 + j, none⟩ = some (v j) ∧ w5.frozen? ⟨B, 2 + j, none⟩ = false) ∧ (∃ v', EpIs (w5.setCell ⟨B, 2 + j, none⟩ (.slice (some ⟨g', 0, none⟩) ((x.q j).length + 1) cap')) lo B P v' ⟨x.now, x.pins, upd x.q j (x.q j ++ [y])⟩ ∧ VNew w.heap.size v v') ∧
    Only (EpBlk B P v) w (w5.setCell ⟨B, 2 + j, none⟩ (.slice (some ⟨g', 0, none⟩) ((x.q j).length + 1) cap')) := by
  have h1 := h.below ((Below.refl _ _).alloc (Nat.le_refl _) ob)
  have ho := grown_only hgrow
  have hu : w5.ownsRow lo 3 1 (.slice (some ⟨g', 0, none⟩) ((x.q j).length + 1) cap') (x.q j ++ [y]).length ((x.q j ++ [y]).map numV) := by
    rw [List.length_append, List.map_append]; exact hown
  have hn : ∀ g, (Value.slice (some ⟨g', 0, none⟩) ((x.q j).length + 1) cap').ownBlock = some g → (v j).ownBlock = some g ∨ (w.alloc ob).heap.size ≤ g := fun g hg => by
    simp only [Value.ownBlock, Option.some.injEq] at hg
    subst hg
    rcases hlie with e | e
    · exact .inl e
    · exact .inr (by simp; omega)
  have o5 := h1.own.upd ho hj hu hn
  have b5 := h1.blk.only ho (fun e => h1.apartB ⟨j, hj, e⟩ rfl)
  have r5 := h1.row.only ho (fun e => h1.apartP ⟨j, hj, e⟩ rfl)
  have o6 := only_at w5 B (2 + j) (.slice (some ⟨g', 0, none⟩) ((x.q j).length + 1) cap')
  have E5 : EpIs w5 lo B P v x → True := fun _ => trivial
  have hv : VNew w.heap.size v (upd v j (.slice (some ⟨g', 0, none⟩) ((x.q j).length + 1) cap')) := VNew.upd hj (fun g hg => (hn g hg).imp id (fun h => by simp at h; omega))
  refine ⟨⟨b5.at (epV_at hj), b5.frozen _⟩, ⟨_, ⟨?_, r5.only o6 (fun e => h.ne e.symm), o5.only o6 ?_⟩, hv⟩, ?_⟩
  · have := b5.set (2 + j) (.slice (some ⟨g', 0, none⟩) ((x.q j).length + 1) cap')
    rw [epV_set hj] at this
    exact this
  · rintro k ⟨i, hi, e⟩ rfl
    exact blk_apart b5 (o5.own i hi) e (by decide) rfl
  · exact (((Only.refl (EpBlk B P v) w).alloc ob).step ho (fun i hi e => .inr (.inr ⟨j, hj, e⟩))).step o6 (fun i hi e => .inl e)
set_option maxHeartbeats 1000000 in
theorem ep_Retire (h : EpIs w lo B P v x) (hlo : lo ≤ w.heap.size) (y : Int) (hq : (x.q (x.now % 3)).length ≤ 1000000) : Calls Try.prog 13 #[.pointer (some ⟨B, 0, none⟩), .int .i64 y] w fun e w' =>
    (e = .returned (.tuple #[]) ∧ (∃ v', EpIs w' lo B P v' ⟨x.now, x.pins, upd x.q (x.now % 3) (x.q (x.now % 3) ++ [y])⟩ ∧ VNew w.heap.size v v')) ∧ Only (EpBlk B P v) w w' := by
  obtain ⟨i0, hi0, hz0, hz1, hz2⟩ := info_at infoInt
  have c0 := h.blk.at (o := 0) rfl
  have hj : x.now % 3 < 3 := Nat.mod_lt _ (by decide)
  have HW := Lib.hid (ep_with B x.now w)
  generalize x.now % 3 = j at *
  have c2 := h.blk.at (epV_at hj)
  have r1 := h.own.own j hj
  obtain ⟨oa, oc, oe⟩ := own_form r1
  rw [oe] at c2 r1
  have H := Lib.hid h
  have HV := Lib.hid oe
  clear h oe
  go_enter Try.func13, Try.ntmps13
  go_wp2_with fail
  refine HW.out.mono ?_
  rintro e w' ⟨rfl, rfl⟩
  go_wp2_with (at_builtin; (refine wpList_append_lies _ rfl _ _ 32 rfl lo 3 i0 (.int .i64 0) 1 8 Try.underlying32 hi0 hz0 hz1 hz2 rfl (by decide) _ _ _ rfl (r1.alloc _) ⟨w.heap.size, 0, none⟩ 1 1 [.int .i64 y] rfl rfl (cell_one_new _ _ _) (by simp [Value.oneCell']) (by decide) (by simp only [maxLen]; first | omega | (simp; omega)) (by first | omega | (simp; omega) | simp) (by first | omega | (simp; omega) | simp) (w.heap.size + 1) (by simp) ?_); intro g' cap' w9 hown' hgrow hlie hlt; rw [← HV.out] at hgrow hlie; obtain ⟨⟨c9, f9⟩, hend⟩ := H.out.grown hj hgrow hlie hown'; rw [HV.out] at c9; have HE := Lib.hid hend; clear hown' hgrow hlie hlt hend)
  go_end0
  exact ⟨⟨rfl, HE.out.1⟩, HE.out.2⟩
theorem ep_Retire_nil (y : Int) (w : World) : Calls Try.prog 13 #[.pointer none, .int .i64 y] w fun e w' => e = .returned (.tuple #[]) ∧ w = w' := by
  go_enter Try.func13, Try.ntmps13
  go_wp2
  refine bodyPost_ret (results_none rfl _ _ _) rfl ?_
  exact ⟨rfl, rfl⟩
theorem ep_Pin_nil (t : Int) (w : World) : Calls Try.prog 9 #[.pointer none, .int .i64 t] w fun e w' => e = .returned (.bool false) ∧ w = w' := by
  go_enter Try.func9, Try.ntmps9
  go_wp2_with fail
  refine (ep_has_nil t w).mono ?_
  rintro e w' ⟨rfl, rfl⟩
  go_wp2
  go_ret
  simp
theorem ep_Unpin_nil (t : Int) (w : World) : Calls Try.prog 11 #[.pointer none, .int .i64 t] w fun e w' => e = .returned (.bool false) ∧ w = w' := by
  go_enter Try.func11, Try.ntmps11
  go_wp2_with fail
  refine (ep_Pinned_nil t w).mono ?_
  rintro e w' ⟨rfl, rfl⟩
  go_wp2
  go_ret
  simp
theorem ep_Advance_nil (w : World) : Calls Try.prog 15 #[.pointer none] w fun e w' => e = .returned (.tuple #[.slice none 0 0, .bool false]) ∧ w = w' := by
  go_enter Try.func15, Try.ntmps15
  go_wp2
  go_ret2
  simp
theorem ep_Advance_no (h : EpIs w lo B P v x) (hl : x.pins.length ≤ 64) (hb : behindZ x = true) : Calls Try.prog 15 #[.pointer (some ⟨B, 0, none⟩)] w fun e w' => e = .returned (.tuple #[.slice none 0 0, .bool false]) ∧ Below w.heap.size w w' := by
  have HB := Lib.hid (ep_behind h hl)
  rw [hb] at HB
  clear h
  go_enter Try.func15, Try.ntmps15
  go_wp2_with fail
  refine HB.out.mono ?_
  rintro e w2 ⟨rfl, hb2⟩
  have B2 := Lib.hid hb2
  clear hb2
  go_wp2
  go_ret2
  exact ⟨rfl, B2.out⟩
/-- Behind an Advance. -/
structure AdvTo (lo B P : Nat) (v : Nat → Value) (x : Ep) (w w' : World) : Prop where
  is : EpIs w' lo B P (upd v ((x.now + 1) % 3) (.slice none 0 0)) ⟨x.now + 1, x.pins, upd x.q ((x.now + 1) % 3) []⟩
  told : w'.ownsRow lo 3 1 (v ((x.now + 1) % 3)) (x.q ((x.now + 1) % 3)).length ((x.q ((x.now + 1) % 3)).map numV)
  only : Only (· = B) w w'
theorem EpIs.adv {j : Nat} (h : EpIs w lo B P v x) (hj : j < 3) : EpIs ((w.setCell ⟨B, 0, none⟩ (.int .i64 ((x.now + 1 : Nat) : Int))).setCell ⟨B, 2 + j, none⟩ (.slice none 0 0)) lo B P (upd v j (.slice none 0 0)) ⟨x.now + 1, x.pins, upd x.q j []⟩ ∧
    ((w.setCell ⟨B, 0, none⟩ (.int .i64 ((x.now + 1 : Nat) : Int))).setCell ⟨B, 2 + j, none⟩ (.slice none 0 0)).ownsRow lo 3 1 (v j) (x.q j).length ((x.q j).map numV) ∧
    Only (· = B) w ((w.setCell ⟨B, 0, none⟩ (.int .i64 ((x.now + 1 : Nat) : Int))).setCell ⟨B, 2 + j, none⟩ (.slice none 0 0)) := by
  have ho := (only_at w B 0 (.int .i64 ((x.now + 1 : Nat) : Int))).trans (only_at _ B (2 + j) (.slice none 0 0))
  have hb := h.blk.set 0 (.int .i64 ((x.now + 1 : Nat) : Int))
  rw [show (epV x P v).set 0 (.int .i64 ((x.now + 1 : Nat) : Int)) = epV ⟨x.now + 1, x.pins, upd x.q j []⟩ P v from rfl] at hb
  have hb2 := hb.set (2 + j) (.slice none 0 0)
  rw [epV_set hj] at hb2
  refine ⟨⟨hb2, h.row.only ho (fun e => h.ne e.symm), ?_⟩, own_only (h.own.own j hj) ho (fun k hk => h.apartB ⟨j, hj, hk⟩), ho⟩
  have o1 := h.own.only ho (fun k hk => h.apartB hk)
  exact o1.upd (Only.refl _ _) hj (World.ownsRow_nil _ _ _ _) (fun g hg => by simp [Value.ownBlock] at hg)
set_option maxHeartbeats 1000000 in
theorem ep_Advance_yes (h : EpIs w lo B P v x) (hl : x.pins.length ≤ 64) (hb : behindZ x = false) (hnow : x.now ≤ 1000000) : Calls Try.prog 15 #[.pointer (some ⟨B, 0, none⟩)] w fun e w' => e = .returned (.tuple #[v ((x.now + 1) % 3), .bool true]) ∧ AdvTo lo B P v x w w' := by
  have HB := Lib.hid (ep_behind h hl)
  rw [hb] at HB
  have H := Lib.hid h
  clear h hb
  go_enter Try.func15, Try.ntmps15
  go_wp2_with fail
  refine HB.out.mono ?_
  rintro e w2 ⟨rfl, hb2⟩
  have h2 := H.out.below hb2
  have B2 := Lib.hid hb2
  have c0 := h2.blk.at (o := 0) rfl
  have f0 := h2.blk.frozen 0
  have hj : (x.now + 1) % 3 < 3 := Nat.mod_lt _ (by decide)
  have hA := h2.adv hj
  have hb3 := h2.blk.set 0 (.int .i64 ((x.now + 1 : Nat) : Int))
  rw [show (epV x P v).set 0 (.int .i64 ((x.now + 1 : Nat) : Int)) = epV ⟨x.now + 1, x.pins, x.q⟩ P v from rfl] at hb3
  have c3 := hb3.at (o := 0) rfl
  have c4 := hb3.at (epV_at hj)
  have f4 := hb3.frozen (2 + (x.now + 1) % 3)
  simp only at c3
  obtain ⟨w3, e3⟩ : ∃ w3, w2.setCell ⟨B, 0, none⟩ (.int .i64 ((x.now + 1 : Nat) : Int)) = w3 := ⟨_, rfl⟩
  rw [e3] at hA c3 c4 f4
  have HA := Lib.hid hA
  have E3 := Lib.hid e3
  obtain ⟨oa, oc, oe⟩ := own_form (h2.own.own _ hj)
  have HV := Lib.hid oe
  rw [oe] at c4
  clear hb2 h2 hA hb3 e3 oe
  go_upto_region 4 with fail
  rw [show (.int .i64 ((x.now : Int) + 1) : Value) = .int .i64 ((x.now + 1 : Nat) : Int) from rfl, E3.out]
  go_wp2_with fail
  refine (ep_with B (x.now + 1) w3).mono ?_
  rintro e w' ⟨rfl, rfl⟩
  go_wp2
  go_ret2
  exact ⟨by rw [HV.out]; rfl, HA.out.1, HA.out.2.1, ((Only.of_below B2.out _).trans HA.out.2.2)⟩
end

end Go.Proofs.Ytkbappdlijmjlaa
