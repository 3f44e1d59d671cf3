/- Layer 7 (package hist): inTurn's walk; Right. -/
import Derived.Test.YtjkabbabhfipbaaTurn7
namespace Go.Proofs.Ytjkabbabhfipbaa
open Go.RowKit

theorem hist_Ahead_b (c d : CallZ) (w : World) : Calls Try.prog 14 #[callA c, callA d] w fun e w' => e = .returned (.bool (decide (c.to < d.fr))) ∧ Below w.heap.size w w' :=
  (hist_Ahead c d w).mono fun _ _ ⟨h, hw⟩ => ⟨h, hw ▸ ((Below.refl _ _).alloc (Nat.le_refl _) _).alloc (by simp) _⟩
set_option maxHeartbeats 4000000 in
theorem hist_inTurn {w : World} {v : Value} {L : List CallZ} (h : CallsIn w v L) (hw : WfCalls L) (hL : L.length ≤ 100000) :
    Calls Try.prog 26 #[v] w fun e w' => e = .returned (.bool (turnB L (fun _ => none))) ∧ Below w.heap.size w w' := by
  obtain ⟨a, c, rfl, hr⟩ := h
  have H := Lib.hid hr
  have HW := Lib.hid hw
  clear hr hw
  have hmm := @run_makeMap Try.prog
  go_enter Try.func26, Try.ntmps26
  go_wp2
  go_loopw [11] (fun i wr => ∃ (k : Nat) (N : Int → Option CallZ), k ≤ L.length ∧ i = .int .i64 k ∧ Hid (UStand w wr w.heap.size k L N)) (fun i _ => L.length - (intOf i).toNat)
  case atStart => exact ⟨0, fun _ => none, Nat.zero_le _, rfl, Lib.hid ⟨⟨_, MapF.made _ _ w, fun x _ => rfl⟩, rfl, (Below.refl _ _).alloc (Nat.le_refl _) _⟩⟩
  case round =>
    obtain ⟨k, N, hk, rfl, T⟩ := hrel
    by_cases hlt : k < L.length
    · obtain ⟨b, off, rfl, hb, hr⟩ := (H.out.below T.out.low).range hlt
      obtain ⟨w1, w2, w3, w4⟩ := HW.out L[k] (List.getElem_mem hlt)
      have hd : L.drop k = L[k] :: L.drop (k + 1) := List.drop_eq_getElem_cons hlt
      generalize L[k] = x at hr hd w1 w2 w3 w4
      have R := Lib.hid hr
      have eq := T.out.eq
      rw [hd, turnB_cons] at eq
      have l1 := (T.out.last.only ((Only.refl (fun _ => False) wr).alloc (.cells (callV x).toArray 42)) id).look w1
      have q0 : (wr.alloc (.cells (callV x).toArray 42)).cell? ⟨wr.heap.size, 0, none⟩ = some (numV x.th) := (Blk.new (l := callV x)).at (o := 0) rfl
      clear hr hd
      cases hN : N x.th with
      | none =>
        have U := Lib.hid (T.out.box x default)
        have r0 := U.out.bx.at (o := 0) rfl
        have r1 := U.out.bx.at (o := 1) rfl
        rw [hN] at l1 eq
        simp only [Option.getD_none, Option.isSome_none] at l1
        by_cases hp : x.pl = 0
        · have hp1 : (x.pl != 0) = false := by simpa using hp
          rw [if_pos (by simpa [turnOk] using hp)] at eq
          obtain ⟨rg, w5, hrun, st⟩ := U.out.put (Nat.le_refl _) (Below.refl _ _) w1 (by omega) eq
          have ST := Lib.hid st
          have RG := Lib.hid rg
          clear eq st rg hp hN
          go_wp2_with (first | (with_reducible show wpList _ _ _ (⟨some 14, _, _, _, _, _⟩ :: _) _ _; refine wpList_load_mid rfl 42 _ rfl b (off + k * 15) rfl (callV x) _ R.out Try.underlying42 rfl (by kernel_rfl) ?_) | (with_reducible show wpList _ _ _ (⟨some 47, _, _, _, _, _⟩ :: _) _ _; refine wpList_load_mid rfl 42 _ rfl wr.heap.size 0 rfl (callV x) _ RG.out Try.underlying42 rfl (by kernel_rfl) ?_) | (with_reducible show wpList _ _ _ (⟨none, Op.store _ (Operand.tmp 5) _, _, _, _, _⟩ :: _) _ _; refine wpList_store_new rfl 42 _ _ rfl _ (callV x).toArray rfl rfl (by kernel_rfl) rfl (callA_one x) ?_) | (with_reducible show wpList _ _ _ (⟨none, Op.store _ (Operand.tmp 6) _, _, _, _, _⟩ :: _) _ _; refine wpList_store_newN rfl 42 _ _ rfl (wr.heap.size + 1) (by simp) _ (callV default).toArray rfl rfl (by kernel_rfl) rfl (callA_one default) ?_))
          go_roundw
          case rel => exact ⟨k + 1, _, by omega, by go_num, ST⟩
          case measure => simp [intOf]; omega
        · have hp1 : (x.pl != 0) = true := by simpa using hp
          rw [if_neg (by simpa [turnOk] using hp)] at eq
          have EQ := Lib.hid eq
          clear eq hp hN
          go_wp2_with (first | (with_reducible show wpList _ _ _ (⟨some 14, _, _, _, _, _⟩ :: _) _ _; refine wpList_load_mid rfl 42 _ rfl b (off + k * 15) rfl (callV x) _ R.out Try.underlying42 rfl (by kernel_rfl) ?_) | (with_reducible show wpList _ _ _ (⟨none, Op.store _ (Operand.tmp 5) _, _, _, _, _⟩ :: _) _ _; refine wpList_store_new rfl 42 _ _ rfl _ (callV x).toArray rfl rfl (by kernel_rfl) rfl (callA_one x) ?_) | (with_reducible show wpList _ _ _ (⟨none, Op.store _ (Operand.tmp 6) _, _, _, _, _⟩ :: _) _ _; refine wpList_store_newN rfl 42 _ _ rfl (wr.heap.size + 1) (by simp) _ (callV default).toArray rfl rfl (by kernel_rfl) rfl (callA_one default) ?_))
          go_ret
          exact ⟨by rw [EQ.out]; rfl, U.out.low⟩
      | some y =>
        have U := Lib.hid (T.out.box x y)
        have r0 := U.out.bx.at (o := 0) rfl
        have r1 := U.out.bx.at (o := 1) rfl
        have y1 := U.out.by_.at (o := 1) rfl
        have XB := Lib.hid (blk_range U.out.bx)
        have YB := Lib.hid (blk_range U.out.by_)
        rw [hN] at l1 eq
        simp only [Option.getD_some, Option.isSome_some] at l1
        by_cases hp : x.pl = wrap64 (y.pl + 1)
        · have hp1 : (x.pl != wrap64 (y.pl + 1)) = false := by simpa using hp
          by_cases ha : y.to < x.fr
          · have ha1 : decide (y.to < x.fr) = true := by simpa using ha
            rw [if_pos (by simp [turnOk, ha, ← hp])] at eq
            have EQ := Lib.hid eq
            clear eq hp hN ha
            go_wp2_with (first | (with_reducible show wpList _ _ _ (⟨some 14, _, _, _, _, _⟩ :: _) _ _; refine wpList_load_mid rfl 42 _ rfl b (off + k * 15) rfl (callV x) _ R.out Try.underlying42 rfl (by kernel_rfl) ?_) | (with_reducible show wpList _ _ _ (⟨none, Op.store _ (Operand.tmp 5) _, _, _, _, _⟩ :: _) _ _; refine wpList_store_new rfl 42 _ _ rfl _ (callV x).toArray rfl rfl (by kernel_rfl) rfl (callA_one x) ?_) | (with_reducible show wpList _ _ _ (⟨none, Op.store _ (Operand.tmp 6) _, _, _, _, _⟩ :: _) _ _; refine wpList_store_newN rfl 42 _ _ rfl (wr.heap.size + 1) (by simp) _ (callV y).toArray rfl rfl (by kernel_rfl) rfl (callA_one y) ?_) | (with_reducible show wpList _ _ _ (⟨some 38, _, _, _, _, _⟩ :: _) _ _; refine wpList_load_g (by simp [Region.wanted, yielded]) 42 _ rfl (wr.heap.size + 1) 0 rfl (callV y) _ YB.out Try.underlying42 rfl (by kernel_rfl) ?_) | (with_reducible show wpList _ _ _ (⟨some 39, _, _, _, _, _⟩ :: _) _ _; refine wpList_load_g (by simp [Region.wanted, yielded, Act.put]) 42 _ rfl wr.heap.size 0 rfl (callV x) _ XB.out Try.underlying42 rfl (by kernel_rfl) ?_))
            refine (hist_Ahead_b y x _).mono ?_
            rw [ha1]
            rintro e w6 ⟨rfl, hb6⟩
            obtain ⟨rg, w5, hrun, st⟩ := U.out.put (Nat.le_refl _) hb6 w1 (by omega) EQ.out
            have q6 := rg 0 _ rfl
            have ST := Lib.hid st
            have RG := Lib.hid rg
            clear st rg
            go_wp2_with (first | (with_reducible show wpList _ _ _ (⟨some 47, _, _, _, _, _⟩ :: _) _ _; refine wpList_load_mid rfl 42 _ rfl wr.heap.size 0 rfl (callV x) _ RG.out Try.underlying42 rfl (by kernel_rfl) ?_))
            go_roundw
            case rel => exact ⟨k + 1, _, by omega, by go_num, ST⟩
            case measure => simp [intOf]; omega
          · have ha1 : decide (y.to < x.fr) = false := by simpa using ha
            rw [if_neg (by simp [turnOk, ha])] at eq
            have EQ := Lib.hid eq
            clear eq hp hN ha
            go_wp2_with (first | (with_reducible show wpList _ _ _ (⟨some 14, _, _, _, _, _⟩ :: _) _ _; refine wpList_load_mid rfl 42 _ rfl b (off + k * 15) rfl (callV x) _ R.out Try.underlying42 rfl (by kernel_rfl) ?_) | (with_reducible show wpList _ _ _ (⟨none, Op.store _ (Operand.tmp 5) _, _, _, _, _⟩ :: _) _ _; refine wpList_store_new rfl 42 _ _ rfl _ (callV x).toArray rfl rfl (by kernel_rfl) rfl (callA_one x) ?_) | (with_reducible show wpList _ _ _ (⟨none, Op.store _ (Operand.tmp 6) _, _, _, _, _⟩ :: _) _ _; refine wpList_store_newN rfl 42 _ _ rfl (wr.heap.size + 1) (by simp) _ (callV y).toArray rfl rfl (by kernel_rfl) rfl (callA_one y) ?_) | (with_reducible show wpList _ _ _ (⟨some 38, _, _, _, _, _⟩ :: _) _ _; refine wpList_load_g (by simp [Region.wanted, yielded]) 42 _ rfl (wr.heap.size + 1) 0 rfl (callV y) _ YB.out Try.underlying42 rfl (by kernel_rfl) ?_) | (with_reducible show wpList _ _ _ (⟨some 39, _, _, _, _, _⟩ :: _) _ _; refine wpList_load_g (by simp [Region.wanted, yielded, Act.put]) 42 _ rfl wr.heap.size 0 rfl (callV x) _ XB.out Try.underlying42 rfl (by kernel_rfl) ?_))
            refine (hist_Ahead_b y x _).mono ?_
            rw [ha1]
            rintro e w6 ⟨rfl, hb6⟩
            go_wp2
            go_ret
            exact ⟨by rw [EQ.out]; rfl, U.out.low.trans (hb6.mono U.out.low.size)⟩
        · have hp1 : (x.pl != wrap64 (y.pl + 1)) = true := by simpa using hp
          rw [if_neg (by simp [turnOk, hp])] at eq
          have EQ := Lib.hid eq
          clear eq hp hN
          go_wp2_with (first | (with_reducible show wpList _ _ _ (⟨some 14, _, _, _, _, _⟩ :: _) _ _; refine wpList_load_mid rfl 42 _ rfl b (off + k * 15) rfl (callV x) _ R.out Try.underlying42 rfl (by kernel_rfl) ?_) | (with_reducible show wpList _ _ _ (⟨none, Op.store _ (Operand.tmp 5) _, _, _, _, _⟩ :: _) _ _; refine wpList_store_new rfl 42 _ _ rfl _ (callV x).toArray rfl rfl (by kernel_rfl) rfl (callA_one x) ?_) | (with_reducible show wpList _ _ _ (⟨none, Op.store _ (Operand.tmp 6) _, _, _, _, _⟩ :: _) _ _; refine wpList_store_newN rfl 42 _ _ rfl (wr.heap.size + 1) (by simp) _ (callV y).toArray rfl rfl (by kernel_rfl) rfl (callA_one y) ?_))
          go_ret
          exact ⟨by rw [EQ.out]; rfl, U.out.low⟩
    · obtain rfl : k = L.length := by omega
      have eq := Lib.hid T.out.eq
      go_wp2
      go_ret
      exact ⟨by rw [eq.out, List.drop_length]; rfl, T.out.low⟩
/-- Right, by both. -/
def rightH (L : List CallZ) : Bool := timeB L 0 [] && turnB L (fun _ => none)
theorem hist_Right {w : World} {v : Value} {L : List CallZ} (h : CallsIn w v L) (hw : WfCalls L) (hL : L.length ≤ 100000) :
    Calls Try.prog 15 #[v] w fun e w' => e = .returned (.bool (rightH L)) ∧ Below w.heap.size w w' := by
  have H := Lib.hid h
  clear h
  by_cases ht : timeB L 0 [] = true
  · go_enter Try.func15, Try.ntmps15
    go_wp2_with fail
    refine (hist_inTime H.out hw hL).mono ?_
    rw [ht]
    rintro e w1 ⟨rfl, hb1⟩
    have E := Lib.hid (show rightH L = turnB L (fun _ => none) by unfold rightH; rw [ht]; rfl)
    clear ht
    go_wp2_with fail
    refine (hist_inTurn (H.out.below hb1) hw hL).mono ?_
    rintro e w2 ⟨rfl, hb2⟩
    go_wp2
    go_ret
    exact ⟨by rw [E.out]; rfl, below_step hb1 hb2⟩
  · have ht : timeB L 0 [] = false := by simpa using ht
    go_enter Try.func15, Try.ntmps15
    go_wp2_with fail
    refine (hist_inTime H.out hw hL).mono ?_
    rw [ht]
    rintro e w1 ⟨rfl, hb1⟩
    have E := Lib.hid (show rightH L = false by unfold rightH; rw [ht]; rfl)
    clear ht
    go_wp2
    go_ret
    exact ⟨by rw [E.out]; rfl, hb1⟩

end Go.Proofs.Ytjkabbabhfipbaa
