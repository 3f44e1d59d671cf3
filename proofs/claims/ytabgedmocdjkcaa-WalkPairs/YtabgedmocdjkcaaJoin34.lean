/- Layer 14: slices.Backward at texts: places and texts, the last one first. · A region that draws its order, walked under a held condition, within a round of a range over a function. Whatever program. -/
import Derived.Test.YtabgedmocdjkcaaSpots14
import Derived.Deep.RegionHeld3
import Derived.OrdersIn
import Derived.TacticsIn
import Derived.RangeFuncCalls
namespace Go.Proofs.Ytabgedmocdjkcaa
open Go.RowKit Go.Shelf

/-- Places and texts, the last one first. -/
def bkZ (ls : List Key) : List (Nat × Key) := (List.range ls.length).map fun k => (ls.length - 1 - k, ls.getD (ls.length - 1 - k) [])
theorem bk_len (ls : List Key) : (bkZ ls).length = ls.length := by simp [bkZ]
theorem bk_at {ls : List Key} {j : Nat} {x : Key} (h : ls[j]? = some x) : (bkZ ls)[ls.length - (j + 1)]? = some (j, x) := by
  have hj : j < ls.length := (List.getElem?_eq_some_iff.1 h).1
  have e1 : ls.length - 1 - (ls.length - (j + 1)) = j := by omega
  simp only [bkZ, List.getElem?_map, List.getElem?_range (show ls.length - (j + 1) < ls.length by omega), Option.map_some, e1]
  rw [List.getD_eq_getElem?_getD, h]; rfl
abbrev encB (x : Nat × Key) : Array Value := #[.int .i64 (x.1 : Int), strV x.2]
set_option maxRecDepth 100000 in
set_option maxHeartbeats 1000000 in
theorem back_seqO (Bn : Nat) (a : Option Addr) (ls : List Key) (cap : Nat) (w : World) (hbox : Boxed w Bn 22 (.slice a ls.length cap)) (hT : TextsIn w a ls) (hn : ls.length ≤ 1000000) :
    SeqO Try.prog 59 #[.pointer (some ⟨Bn, 0, none⟩)] encB (fun k => k ≠ Bn ∧ ∀ b off, a = some ⟨b, off, none⟩ → k ≠ b) (fun xs => xs = bkZ ls) (fun pre => pre <+: bkZ ls) w := by
  intro l J Jx C W hb hA hw hJ hJx hY h0
  show Calls Try.prog 59 #[.func (.yield l) #[] #[], .pointer (some ⟨Bn, 0, none⟩)] W _
  have HBX : Hid (∀ wr, Only C W wr → wr.cell? ⟨Bn, 0, none⟩ = some (.slice a ls.length cap)) := Lib.hid fun wr ho =>
    (boxO (boxed_below hbox hb hbox.lt) ho fun h => (hA Bn h).elim (fun h => h.1 rfl) fun h => absurd hbox.lt (by omega)).cell
  have HTX : Hid (∀ wr, Only C W wr → ∀ j x, ls[j]? = some x → ∃ b off, a = some ⟨b, off, none⟩ ∧ wr.cell? ⟨b, off + j, none⟩ = some (strV x)) := Lib.hid fun wr ho j x hx => by
    obtain ⟨b, off, h1, h2, h3⟩ := hT j x hx
    have hz := hb.size
    refine ⟨b, off, h1, ?_⟩
    have h4 : wr.heap[b]? = W.heap[b]? := ho.block b (by omega) fun h => (hA b h).elim (fun h => h.2 b off h1 rfl) fun h => absurd h2 (by omega)
    exact (World.cell?_of_block (w := W) h4).trans ((hb.cell (p := ⟨b, off + j, none⟩) h2).trans h3)
  have HY := Lib.hid hY
  have HJ := Lib.hid hJ
  have hB0 := HBX.out W (Only.refl _ _)
  obtain ⟨N, hN⟩ : ∃ N, N = ls.length := ⟨_, rfl⟩
  clear hY hJ hJx hbox hT hb hA
  rw [← hN] at hn hB0
  refine (callsIn_wide (n := 3)).1 ?_
  refine callsIn_of_wp Try.func59 rfl trivial ?_ rfl
  simp only [Try.ntmps59, List.size_toArray, List.length_cons, List.length_nil, Nat.reduceAdd, Nat.reduceSub, Array.replicate_succ, Array.replicate_zero, List.push_toArray, List.append_toArray, List.nil_append, List.cons_append]
  gi_wp2
  gi_loopw [3] (fun i wr => ∃ k : Nat, k ≤ N ∧ i = .int .i64 ((k : Int) - 1) ∧ ∃ C1, Grow C C1 W ∧ Only C W wr ∧ Wn C1 wr ∧ J C1 ((bkZ ls).take (N - k)) wr) (fun i _ => (intOf i + 1).toNat)
  case atStart => exact ⟨N, Nat.le_refl _, by go_num, C, Grow.refl _ _, Only.refl _ _, hw, by rw [Nat.sub_self]; exact h0⟩
  case round =>
    obtain ⟨k, hk, rfl, C1, hg, ho, hwn, hj⟩ := hrel
    cases k with
    | zero =>
      gi_wp2
      go_end0
      refine ⟨⟨_, rfl⟩, C1, hg, ho, hwn, .inl ⟨_, rfl, ?_⟩⟩
      rw [Nat.sub_zero, hN, ← bk_len, List.take_length] at hj
      exact hj
    | succ j =>
      have hji : ((j + 1 : Nat) : Int) - 1 = (j : Int) := by omega
      rw [hji]
      obtain ⟨x, hx⟩ : ∃ x, ls[j]? = some x := ⟨_, List.getElem?_eq_getElem (by omega)⟩
      obtain ⟨b, off, ha, hc⟩ := HTX.out wr ho j x hx
      have hbx := HBX.out wr ho
      rw [← hN] at hbx
      subst ha
      have hxt := bk_at hx
      rw [← hN] at hxt
      have T : Hid ((bkZ ls).take (N - j) = (bkZ ls).take (N - (j + 1)) ++ [(j, x)]) := by
        show _ = _
        obtain ⟨h1, h2⟩ := List.getElem?_eq_some_iff.1 hxt
        rw [show N - j = N - (j + 1) + 1 by omega, List.take_succ_eq_append_getElem h1, h2]
      obtain ⟨fn, tmps, assign, body, hy, hR⟩ := HY.out C1 ((bkZ ls).take (N - (j + 1))) (j, x) wr (by rw [← T.out]; exact List.take_prefix _ _) hj hg ho hwn 2
      dsimp only [encB] at hy
      clear hx hxt hj
      gi_wp2
      refine hR.mono ?_
      rintro e W3 ⟨C2, g2, o2, w2, ⟨rfl, hJ3⟩ | ⟨rfl, hJx3⟩⟩
      · rw [← T.out] at hJ3
        gi_wp2
        go_roundw
        case rel => exact ⟨j, by omega, by go_num, C2, hg.trans g2 ho.size, ho.grow o2 hg, w2, hJ3⟩
        case measure => simp [intOf]
      · rw [← T.out] at hJx3
        gi_wp2
        refine bodyPost_ret (results_none rfl _ _ _) rfl ?_
        exact ⟨⟨_, rfl⟩, C2, hg.trans g2 ho.size, ho.grow o2 hg, w2, .inr ⟨_, List.take_prefix _ _, hJx3⟩⟩
/-- Backward itself. -/
theorem back_makes (a : Option Addr) (n cap : Nat) (W : World) : Calls Try.prog 41 #[.slice a n cap] W fun e w' => e = .returned (.func (.func 59) #[] #[.pointer (some ⟨W.heap.size, 0, none⟩)]) ∧
    w' = W.alloc (.cells #[.slice a n cap] 22) := by
  go_enter Try.func41, Try.ntmps41
  go_wp2
  go_ret
  exact ⟨rfl, rfl⟩
end Go.Proofs.Ytabgedmocdjkcaa

namespace Go.Proofs.Ytabgedmocdjkcaa
open Go.RowKit

variable {P : Program} {l n : Nat}
theorem rows_in {row : String} {args : Array Value} {w : World} {R : Value → World → Prop} (h : Rows P row args w R) : RowsIn (Fence.wide.inRound l) n P row args w R :=
  fun c cs _ => let ⟨v, w', r, s⟩ := h c cs; ⟨v, w', r, stepsIn_wide.2 s⟩
theorem oper_in {o : Oper} {a : Act} {w : World} {K : Act → World → Prop} {Q : Exit → Act → World → Prop} (hnd : ∀ c, o.op ≠ .defer c) (h : o.wp P a w K Q) : Oper.wpIn (Fence.wide.inRound l) n P o a w K Q := by
  unfold Oper.wpIn
  refine ⟨fun _ _ => trivial, ?_⟩
  rw [Oper.semAt_eq _ _ _ hnd]
  unfold Oper.wp at h
  generalize (execOp a.eval o).run P w = r at *
  cases r with
  | ok x w' =>
    cases x <;> simp only [Oper.upon, Oper.uponIn] at h ⊢ <;>
      first
        | exact h
        | exact ⟨fun e => by simp [Fence.inRound, Fence.wide] at e, callsIn_wide.2 h⟩
        | exact ⟨fun e => by simp [Fence.inRound, Fence.wide] at e, rows_in h⟩
  | halt x w' => cases x <;> simp only [Oper.upon, Oper.uponIn] at h ⊢ <;> exact h
/-- No operation is a defer statement. -/
def noDefer (o : Oper) : Bool := match o.op with | .defer _ => false | _ => true
theorem noDefer_of {o : Oper} (h : noDefer o = true) : ∀ c, o.op ≠ .defer c := fun c e => by
  simp [noDefer, e] at h
variable {ops : Array Oper} {Q : Exit → Act → World → Prop} {md : Region.Mode}
theorem op_in {i : Nat} {K K' : Act → World → Prop} {a : Act} {w : World} (hnd : ops.all noDefer = true) (hno : ¬ LetsOut Q) (hK : ∀ a w, K a w → K' a w) (h : wpOp P ops Q i K a w) : wpOpIn (Fence.wide.inRound l) n P ops Q i K' a w := by
  unfold wpOp at h
  unfold wpOpIn
  cases ho : ops[i]? with
  | none => simp only [ho] at h ⊢; exact hK _ _ h
  | some o =>
    simp only [ho] at h ⊢
    have hnd' : noDefer o = true := by
      obtain ⟨hi, rfl⟩ := Array.getElem?_eq_some_iff.1 ho
      exact (Array.all_eq_true.1 hnd) i hi
    split
    · rename_i hw
      rw [if_pos hw] at h
      rcases h with h | ⟨_, h⟩
      · exact Oper.wpIn_mono hK (oper_in (noDefer_of hnd') h)
      · exact absurd h hno
    · rename_i hw
      rw [if_neg hw] at h
      exact ⟨fun _ _ => trivial, hK _ _ h⟩
theorem any_in (hnd : ops.all noDefer = true) (hno : ¬ LetsOut Q) : ∀ (fuel : Nat) (listed : Array Bool) (a : Act) (w : World), wpAny P md ops Q fuel listed a w → wpAnyIn (Fence.wide.inRound l) n P md ops Q fuel listed a w
  | 0, _, _, _, h => h
  | fuel + 1, listed, _, _, h => ⟨h.1, fun i hi => op_in hnd hno (fun a w => any_in hnd hno fuel (listed.setIfInBounds i true) a w) (h.2 i hi)⟩
theorem wpIn_region_held_round {id : Nat} {S : World → Prop} {a : Act} {w : World} (hm : P.follows .mixedOrders = true) (hnd : ops.all noDefer = true) (hno : ¬ LetsOut Q) (hS : S w.drew)
    (h : S w.drew → wpAnyH P .any ops Q S ops.size (Array.replicate ops.size false) a w.drew) : (Code.region id ops true).wpIn (Fence.wide.inRound l) n P Q a w :=
  wpIn_region_any hm (any_in hnd hno _ _ _ _ (wpAny_of_held _ _ _ _ (h hS)))

end Go.Proofs.Ytabgedmocdjkcaa
