/- Layer 6 (package sched): chains: contracts of chain, of its step, and of Chain. -/
import Derived.Test.YtfgkickjjeamgaaCall6
namespace Go.Proofs.Ytfgkickjjeamgaa
open Go.RowKit

/-- The step that chain tells of n functions whose slice lies in block B. -/
def stepV (n B : Nat) : Value := if n = 0 then .nilFunc else fnV 24 #[.pointer (some ⟨B, 0, none⟩)]

theorem run_makeFunc (fn : Fn) (first cap : Array Value) (w : World) : (Instr.makeFunc fn first cap).run Try.prog w = .ok (.func fn first cap) w := rfl

theorem chain_of (a : Option Addr) (n c : Nat) (w : World) :
    Calls Try.prog 20 #[.slice a n c] w fun e w' => e = .returned (stepV n w.heap.size) ∧ w' = w.alloc (.cells #[.slice a n c] 53) := by
  have hmf := run_makeFunc
  have hblk : Blk 53 (w.alloc (.cells #[.slice a n c] 53)) w.heap.size [.slice a n c] := Blk.new (l := [.slice a n c])
  have c0 := hblk.at (o := 0) rfl
  clear hblk
  by_cases hz : n = 0
  · subst hz
    go_enter Try.func20, Try.ntmps20
    go_wp2
    go_ret
    exact ⟨rfl, rfl⟩
  · have hz1 : ((n : Int) == 0) = false := by simp [hz]
    have E := Lib.hid (show stepV n w.heap.size = fnV 24 #[.pointer (some ⟨w.heap.size, 0, none⟩)] by unfold stepV; rw [if_neg hz])
    go_enter Try.func20, Try.ntmps20
    go_wp2
    go_ret
    exact ⟨by rw [E.out]; rfl, rfl⟩

/-- The step itself: blocked, or a move. -/
theorem chain_blocked {w : World} {B D o n cap f : Nat} {c : Array Value} {R : World → Prop} (hb : w.cell? ⟨B, 0, none⟩ = some (.slice (some ⟨D, o, none⟩) n cap)) (hn : 0 < n) (hd : w.cell? ⟨D, o, none⟩ = some (fnV f c)) (hf : Enters f)
    (HC : Calls Try.prog f c w fun e w1 => e = .returned (.bool false) ∧ R w1) :
    Calls Try.prog 24 #[.pointer (some ⟨B, 0, none⟩)] w fun e w' => e = .returned (.tuple #[.nilFunc, .bool false]) ∧ R w' := by
  have hent : ∀ (args : Array Value) (w : World), (callFunc f args).run Try.prog w = .ok (.enter f args) w := hf
  go_enter Try.func24, Try.ntmps24
  go_wp2_with fail
  refine HC.mono ?_
  rintro e w1 ⟨rfl, hR⟩
  go_wp2
  go_ret2
  exact ⟨rfl, hR⟩
theorem chain_moved {w : World} {B D o n cap f : Nat} {c : Array Value} {R : World → Prop} (hb : w.cell? ⟨B, 0, none⟩ = some (.slice (some ⟨D, o, none⟩) n cap)) (hn : 0 < n) (hcap : n ≤ cap) (hd : w.cell? ⟨D, o, none⟩ = some (fnV f c)) (hf : Enters f)
    (HC : Calls Try.prog f c w fun e w1 => e = .returned (.bool true) ∧ R w1) (hR : ∀ w1, R w1 → w1.cell? ⟨B, 0, none⟩ = some (.slice (some ⟨D, o, none⟩) n cap)) :
    Calls Try.prog 24 #[.pointer (some ⟨B, 0, none⟩)] w fun e w' => ∃ w1 a c', e = .returned (.tuple #[stepV (n - 1) w1.heap.size, .bool true]) ∧ R w1 ∧ w' = w1.alloc (.cells #[.slice a (n - 1) c'] 53) ∧ n - 1 ≤ c' ∧ (1 < n → a = some ⟨D, o + 1, none⟩) := by
  have hent : ∀ (args : Array Value) (w : World), (callFunc f args).run Try.prog w = .ok (.enter f args) w := hf
  go_enter Try.func24, Try.ntmps24
  go_wp2_with fail
  refine HC.mono ?_
  rintro e w1 ⟨rfl, hR1⟩
  have hb1 := hR w1 hR1
  have HR := Lib.hid hR1
  clear hR hR1
  go_wp2_with fail
  all_goals
    refine (chain_of _ _ _ _).mono ?_
    rintro e w2 ⟨rfl, rfl⟩
    go_wp2
    go_ret2
    refine ⟨w1, _, _, rfl, HR.out, rfl, by omega, fun h1 => ?_⟩
    first | rfl | (exfalso; omega)

theorem infoFunc : (Try.prog.info? 24).map (fun i => (i.zero, i.size, i.bytes)) = some (some .nilFunc, 1, 8) := by kernel_rfl
theorem neq_func_nil (f : Nat) (c : Array Value) (w : World) : (binOp .neq 24 (fnV f c) .nilFunc).run Try.prog w = .ok (.bool true) w := by kernel_rfl
theorem neq_func_nil' (w : World) : (binOp .neq 24 .nilFunc .nilFunc).run Try.prog w = .ok (.bool false) w := by kernel_rfl

/-- What isn't nil. -/
def notNil : Value → Bool
  | .nilFunc => false
  | _ => true
/-- Functions, and nil ones. -/
def FuncsOrNil (vals : List Value) : Prop := ∀ v ∈ vals, v = .nilFunc ∨ ∃ f c, v = fnV f c
theorem filter_take_succ {vals : List Value} {k : Nat} (hk : k < vals.length) : (vals.take (k + 1)).filter notNil = (vals.take k).filter notNil ++ (if notNil vals[k] = true then [vals[k]] else []) := by
  rw [List.take_succ_eq_append_getElem hk, List.filter_append]
  cases h : notNil vals[k] <;> simp [List.filter, h]

/-- A slice of functions, nil ones left out, and the step of them. -/
theorem sched_Chain {w : World} {lv : Value} {vals : List Value} (hl : SliceK w 1 lv vals.length vals) (hf : FuncsOrNil vals) (hbig : vals.length ≤ 1000000) :
    Calls Try.prog 12 #[lv] w fun e w' => ∃ w1 a c, e = .returned (stepV (vals.filter notNil).length w1.heap.size) ∧ w' = w1.alloc (.cells #[.slice a (vals.filter notNil).length c] 53) ∧ Below w.heap.size w w1 ∧
      w1.ownsRow w.heap.size 24 1 (.slice a (vals.filter notNil).length c) (vals.filter notNil).length (vals.filter notNil) := by
  obtain ⟨i0, hi, hz0, hz1, hz2⟩ := info_at infoFunc
  have q1 := neq_func_nil
  have q2 := neq_func_nil'
  obtain ⟨la, lc, rfl, hcell⟩ : ∃ a c, lv = .slice a vals.length c ∧ ∀ k (hk : k < vals.length), ∃ b off, a = some ⟨b, off, none⟩ ∧ b < w.heap.size ∧ w.cell? ⟨b, off + k, none⟩ = some vals[k] := by
    rcases hl.2 with ⟨rfl, h0⟩ | ⟨b, off, cap, rfl, _, hb, hc⟩
    · exact ⟨none, 0, by rw [h0], fun k hk => by omega⟩
    · exact ⟨_, cap, rfl, fun k hk => ⟨b, off, rfl, hb, hc k _ (List.getElem?_eq_getElem hk)⟩⟩
  have C := Lib.hid hcell
  have FN := Lib.hid hf
  clear hcell hf hl
  go_enter Try.func12, Try.ntmps12
  go_wp2_with fail
  go_loopw [3, 5, 8] (fun o _ i wr => ∃ (k : Nat) (M : List Value), k ≤ vals.length ∧ M.length ≤ k ∧ i = .int .i64 k ∧ Hid ((vals.take k).filter notNil = M) ∧ wr.ownsRow w.heap.size 24 1 o M.length M ∧ Below w.heap.size w wr) (fun _ _ i _ => vals.length - (intOf i).toNat)
  case atStart => exact ⟨0, [], Nat.zero_le _, Nat.le_refl _, rfl, rfl, World.ownsRow_nil _ _ _ _, Below.refl _ _⟩
  case round =>
    obtain ⟨k, M, hk, hM, rfl, F, hrow, hB⟩ := hrel
    have hbs := hB.size
    by_cases hlt : k < vals.length
    · obtain ⟨b, off, rfl, hb, hc⟩ := C.out k hlt
      have hc := (hB.cell (p := ⟨b, off + k, none⟩) hb).trans hc
      have N := Lib.hid (filter_take_succ hlt)
      rcases FN.out vals[k] (List.getElem_mem hlt) with e | ⟨f, c, e⟩
      · rw [e] at hc
        have N2 := Lib.hid (show (vals.take (k + 1)).filter notNil = M by rw [N.out, F.out, e]; simp [notNil])
        clear N e
        go_wp2
        go_roundw
        case rel => exact ⟨k + 1, M, by omega, by omega, by go_num, N2, hrow, hB⟩
        case measure => simp [intOf]; omega
      · rw [e] at hc
        have N2 := Lib.hid (show (vals.take (k + 1)).filter notNil = M ++ [fnV f c] by rw [N.out, F.out, e]; simp [notNil])
        clear N e
        go_wp2_with (at_builtin; refine wpList_append_own _ rfl _ _ 53 rfl w.heap.size 24 i0 .nilFunc 1 8 Try.underlying53 hi hz0 hz1 hz2 rfl (by decide) _ _ _ rfl (hrow.alloc _) ⟨wr.heap.size, 0, none⟩ 1 1 [fnV f c] rfl rfl (cell_one_new _ _ _) (by simp [Value.oneCell']) (by simp only [maxLen]; omega) (by omega) (by simp; omega) ?_; intro v' w1 hown' hgrow _; obtain ⟨g', cap', rfl⟩ := ownsRow_succ hown')
        go_roundw
        case rel => exact ⟨k + 1, M ++ [fnV f c], by omega, by simp; omega, by go_num, N2, by simpa using hown', (hB.alloc hbs _).grown hgrow (by simp; omega) (fun j e => own_base3 hrow j e)⟩
        case measure => simp [intOf]; omega
    · obtain rfl : k = vals.length := by omega
      rw [List.take_length] at F
      obtain ⟨a, c, rfl⟩ : ∃ a c, u3 = .slice a M.length c := by
        rcases hrow.2 with ⟨e, h0⟩ | ⟨g, cap, cur, e, _⟩
        · exact ⟨none, 0, by rw [e, h0]⟩
        · exact ⟨_, _, e⟩
      have R := Lib.hid (And.intro hrow hB)
      clear hrow hB
      go_wp2_with fail
      refine (chain_of _ _ _ _).mono ?_
      rintro e w2 ⟨rfl, rfl⟩
      go_wp2
      go_ret
      rw [F.out]
      exact ⟨wr, _, _, rfl, rfl, R.out.2, R.out.1⟩

end Go.Proofs.Ytfgkickjjeamgaa
