/- Layer 8 (package lin): a search in memory. -/
import Derived.Test.YthngehpmoiojfaaAns8
import Derived.Test.YthngehpmoiojfaaPoint8
import Derived.Test.YthngehpmoiojfaaMapV8
import Derived.Test.YthngehpmoiojfaaMinimal7
import Derived.Test.YthngehpmoiojfaaLinPlain8
import Derived.BigQuiet
namespace Go.Proofs.Ythngehpmoiojfaa
open Go.RowKit

/-- What turns of a search: its order's slice, what is done, the order, the count, how many entries the map of dead points has at most. -/
structure Se where
  ov : Value
  D : List Bool
  O : List Int
  fnd : Int
  n : Nat
def seV (s0 : StZ) (cv mv : Value) (x : Se) : List Value := mV s0 ++ cv :: (x.D.map Value.bool ++ [x.ov, mv, numV x.fnd])
section
variable {s0 : StZ} {cv mv : Value} {x : Se}
theorem seV_calls : (seV s0 cv mv x)[4]? = some cv := rfl
theorem seV_do : (seV s0 cv mv x)[2]? = some (fn8 21) := rfl
theorem seV_key : (seV s0 cv mv x)[3]? = some (fn8 22) := rfl
theorem seV_done {i : Nat} (hi : i < x.D.length) : (seV s0 cv mv x)[5 + i]? = some (.bool x.D[i]) := by
  rw [Nat.add_comm]
  show (x.D.map Value.bool ++ [x.ov, mv, numV x.fnd])[i]? = _
  rw [List.getElem?_append_left (by simpa using hi)]
  simp [hi]
theorem seV_tail (hD : x.D.length = 24) (j : Nat) : (seV s0 cv mv x)[29 + j]? = [x.ov, mv, numV x.fnd][j]? := by
  rw [show 29 + j = (24 + j) + 5 by omega]
  show (x.D.map Value.bool ++ [x.ov, mv, numV x.fnd])[24 + j]? = _
  rw [List.getElem?_append_right (by simp [hD])]
  simp [hD]
theorem seV_len (hD : x.D.length = 24) : (seV s0 cv mv x).length = 32 := by simp [seV, mV, hD]
theorem seV_set_done {i : Nat} (hi : i < x.D.length) (b : Bool) : (seV s0 cv mv x).set (5 + i) (.bool b) = seV s0 cv mv ⟨x.ov, x.D.set i b, x.O, x.fnd, x.n⟩ := by
  rw [Nat.add_comm]
  show numV s0.n :: .string s0.slot :: _ :: _ :: cv :: (x.D.map Value.bool ++ [x.ov, mv, numV x.fnd]).set i (.bool b) = _
  rw [List.set_append_left _ _ (by simpa using hi), ← List.map_set]
  rfl
theorem seV_set_tail (hD : x.D.length = 24) (j : Nat) (v : Value) : (seV s0 cv mv x).set (29 + j) v = mV s0 ++ cv :: (x.D.map Value.bool ++ [x.ov, mv, numV x.fnd].set j v) := by
  rw [show 29 + j = (24 + j) + 5 by omega]
  show numV s0.n :: .string s0.slot :: _ :: _ :: cv :: (x.D.map Value.bool ++ [x.ov, mv, numV x.fnd]).set (24 + j) v = _
  rw [List.set_append_right _ _ (by simp [hD])]
  simp [hD, mV]
end
/-- A slice of calls that lies in K. -/
def CallsK (K : Nat → Prop) (w : World) (v : Value) (L : List CallZ) : Prop := ∃ a c, v = .slice a L.length c ∧ RecsIn 15 callV w a L ∧ ∀ b o, a = some ⟨b, o, none⟩ → 0 < L.length → K b
theorem CallsK.in {K : Nat → Prop} {w : World} {v : Value} {L : List CallZ} (h : CallsK K w v L) : CallsIn w v L := by obtain ⟨a, c, e, hr, _⟩ := h; exact ⟨a, c, e, hr⟩
theorem CallsK.only {K S : Nat → Prop} {w w' : World} {v : Value} {L : List CallZ} (h : CallsK K w v L) (ho : Only S w w') (hS : ∀ k, S k → ¬ K k) : CallsK K w' v L := by
  obtain ⟨a, c, e, hr, hk⟩ := h
  refine ⟨a, c, e, fun k x hx => ?_, hk⟩
  obtain ⟨b, off, ha, hlt, hc⟩ := hr k x hx
  have hb := hk b off ha (by have := (List.getElem?_eq_some_iff.1 hx).1; omega)
  exact ⟨b, off, ha, Nat.lt_of_lt_of_le hlt ho.size, fun j v hv => (World.cell?_of_block (w := w) (ho.block b hlt (fun h => hS b h hb))).trans (hc j v hv)⟩
theorem CallsK.wide {K K' : Nat → Prop} {w : World} {v : Value} {L : List CallZ} (h : CallsK K w v L) (hK : ∀ k, K k → K' k) : CallsK K' w v L := by
  obtain ⟨a, c, e, hr, hk⟩ := h
  exact ⟨a, c, e, hr, fun b o h1 h2 => hK b (hk b o h1 h2)⟩
/-- The map of dead points, if there is one: behind none of them there is an order. -/
def DeadIs (K : Nat → Prop) (w : World) (L : List CallZ) (n : Nat) (mv : Value) : Prop :=
  mv = .map none ∨ ∃ M F, mv = .map (some M) ∧ ¬ K M ∧ MapV Try.prog 74 w M n F ∧ ∀ D s v, D.length = 24 → F (ptA D (keyZ s)) = some v → v = .bool true ∧ conts smallM L (nU L D) D s = []
/-- A search in memory that touches nothing of K. -/
structure SeIs (K : Nat → Prop) (w : World) (B : Nat) (s0 : StZ) (L : List CallZ) (cv mv : Value) (x : Se) : Prop where
  blk : Blk 65 w B (seV s0 cv mv x)
  dl : x.D.length = 24
  calls : CallsK K w cv L
  own : w.ownsRow 0 3 1 x.ov x.O.length (x.O.map numV)
  dead : DeadIs K w L x.n mv
  kb : ¬ K B
  ko : ∀ g, x.ov.ownBlock = some g → ¬ K g
  kl : ∀ k, K k → k < w.heap.size
section
variable {K : Nat → Prop} {w : World} {B : Nat} {s0 : StZ} {L : List CallZ} {cv mv : Value} {x : Se}
theorem SeIs.only {w' : World} {S : Nat → Prop} (h : SeIs K w B s0 L cv mv x) (ho : Only S w w') (hS : ∀ k, S k → k ≠ B ∧ mv ≠ .map (some k) ∧ x.ov.ownBlock ≠ some k ∧ ¬ K k) : SeIs K w' B s0 L cv mv x := by
  refine ⟨h.blk.only ho (fun h' => (hS B h').1 rfl), h.dl, h.calls.only ho (fun k hk => (hS k hk).2.2.2), own_only h.own ho (fun k hk h' => (hS k h').2.2.1 hk), ?_, h.kb, h.ko, fun k hk => Nat.lt_of_lt_of_le (h.kl k hk) ho.size⟩
  rcases h.dead with e | ⟨M, F, e, hk, hm, hs⟩
  · exact .inl e
  · exact .inr ⟨M, F, e, hk, hm.only ho (fun h' => (hS M h').2.1 e), hs⟩
theorem SeIs.below {w' : World} (h : SeIs K w B s0 L cv mv x) (hb : Below w.heap.size w w') : SeIs K w' B s0 L cv mv x := h.only (Only.of_below hb (fun _ => False)) (fun _ => False.elim)
theorem SeIs.alloc (h : SeIs K w B s0 L cv mv x) (o : Obj) : SeIs K (w.alloc o) B s0 L cv mv x := h.below ((Below.refl _ _).alloc (Nat.le_refl _) _)
theorem SeIs.drewN (h : SeIs K w B s0 L cv mv x) (n : Nat) : SeIs K (w.drewN n) B s0 L cv mv x := h.below (below_draws (Below.refl _ _) n)
/-- Other blocks kept: cells that are neither the search's nor its order's. -/
theorem SeIs.keep {K' : Nat → Prop} (h : SeIs K w B s0 L cv mv x) (hK : ∀ k, K k → K' k) (hK' : ∀ k, K' k → K k ∨ (k ≠ B ∧ x.ov.ownBlock ≠ some k ∧ ∃ t l, Blk t w k l)) : SeIs K' w B s0 L cv mv x := by
  refine ⟨h.blk, h.dl, h.calls.wide hK, h.own, ?_, fun h' => ?_, fun g hg h' => ?_, fun k hk => ?_⟩
  · rcases h.dead with e | ⟨M, F, e, hk, hm, hs⟩
    · exact .inl e
    · refine .inr ⟨M, F, e, fun h' => ?_, hm, hs⟩
      rcases hK' M h' with h' | ⟨_, _, t, l, hl⟩
      · exact hk h'
      · exact hm.ne_blk hl rfl
  · rcases hK' B h' with h' | h'
    · exact h.kb h'
    · exact h'.1 rfl
  · rcases hK' g h' with h' | h'
    · exact h.ko g hg h'
    · exact h'.2.1 hg
  · rcases hK' k hk with h' | ⟨_, _, t, l, hl⟩
    · exact h.kl k h'
    · exact hl.lt
/-- Fewer. -/
theorem SeIs.less {K' : Nat → Prop} (h : SeIs K' w B s0 L cv mv x) (hK : ∀ k, K k → K' k) (hc : CallsK K w cv L) : SeIs K w B s0 L cv mv x := by
  refine ⟨h.blk, h.dl, hc, h.own, ?_, fun h' => h.kb (hK B h'), fun g hg h' => h.ko g hg (hK g h'), fun k hk => h.kl k (hK k hk)⟩
  rcases h.dead with e | ⟨M, F, e, hk, hm, hs⟩
  · exact .inl e
  · exact .inr ⟨M, F, e, fun h' => hk (hK M h'), hm, hs⟩
theorem SeIs.apart (h : SeIs K w B s0 L cv mv x) : ∀ g, x.ov.ownBlock = some g → B ≠ g := fun _ hg => blk_apart h.blk h.own hg (by decide)
/-- The search's own block is written. -/
theorem SeIs.store {w' : World} {x' : Se} (h : SeIs K w B s0 L cv mv x) (hb : Blk 65 w' B (seV s0 cv mv x')) (ho : Only (· = B) w w') (hD : x'.D.length = 24) (hn : x'.n = x.n)
    (hown : w.ownsRow 0 3 1 x'.ov x'.O.length (x'.O.map numV)) (hko : ∀ g, x'.ov.ownBlock = some g → ¬ K g) : SeIs K w' B s0 L cv mv x' := by
  refine ⟨hb, hD, h.calls.only ho (fun k e => e ▸ h.kb), own_only hown ho (fun k hk e => blk_apart h.blk hown hk (by decide) e.symm), ?_, h.kb, hko, fun k hk => Nat.lt_of_lt_of_le (h.kl k hk) ho.size⟩
  rcases h.dead with e | ⟨M, F, e, hk, hm, hs⟩
  · exact .inl e
  · exact .inr ⟨M, F, e, hk, by rw [hn]; exact hm.only ho (fun e' => hm.ne_blk h.blk e'), hs⟩
theorem SeIs.onlyB {w' : World} (h : SeIs K w B s0 L cv mv x) (ho : Only (· = B) w w') : Only (fun k => ¬ K k) w w' := ho.mono (fun _ _ e => e ▸ h.kb)
theorem SeIs.ovAt (h : SeIs K w B s0 L cv mv x) : w.cell? ⟨B, 29, none⟩ = some x.ov := h.blk.at (seV_tail h.dl 0)
theorem SeIs.mapAt (h : SeIs K w B s0 L cv mv x) : w.cell? ⟨B, 30, none⟩ = some mv := h.blk.at (seV_tail h.dl 1)
theorem SeIs.fndAt (h : SeIs K w B s0 L cv mv x) : w.cell? ⟨B, 31, none⟩ = some (numV x.fnd) := h.blk.at (seV_tail h.dl 2)
theorem SeIs.callsAt (h : SeIs K w B s0 L cv mv x) : w.cell? ⟨B, 4, none⟩ = some cv := h.blk.at seV_calls
theorem SeIs.keyAt (h : SeIs K w B s0 L cv mv x) : w.cell? ⟨B, 3, none⟩ = some (fn8 22) := h.blk.at seV_key
end

theorem nat_beq (n m : Nat) : ((n : Int) == (m : Int)) = decide (n = m) := by
  by_cases e : n = m
  · subst e; simp
  · have : (n : Int) ≠ (m : Int) := by omega
    simp [this, e]
theorem only_cell (w : World) (B o : Nat) (v : Value) : Only (· = B) w (w.setCell ⟨B, o, none⟩ v) := (Only.refl (· = B) w).setCell (p := ⟨B, o, none⟩) (.inl rfl) v
/-- whole. -/
theorem se_whole {K : Nat → Prop} {w : World} {B : Nat} {s0 : StZ} {L : List CallZ} {cv mv : Value} {x : Se} (h : SeIs K w B s0 L cv mv x) :
    Calls Try.prog 31 #[.pointer (some ⟨B, 0, none⟩)] w fun e w' => e = .returned (.bool (decide (x.O.length = L.length))) ∧ Below w.heap.size w w' := by
  have c1 := h.ovAt
  have c2 := h.callsAt
  obtain ⟨a, c, e1⟩ := own_form h.own
  obtain ⟨a', c', e2, _⟩ := h.calls
  rw [e1] at c1
  rw [e2] at c2
  clear e1 e2 h
  generalize x.O.length = n at *
  generalize L.length = m at *
  go_enter Try.func31, Try.ntmps31
  go_wp2
  go_quiet (fail)
  go_wp2
  go_ret
  exact ⟨by rw [nat_beq]; rfl, below_draws (Below.refl _ _) _⟩

section
variable {K : Nat → Prop} {w : World} {B : Nat} {s0 : StZ} {L : List CallZ} {cv mv : Value} {x : Se}
theorem SeIs.mapNe (h : SeIs K w B s0 L cv mv x) {M : Nat} (e : mv = .map (some M)) : ∀ g, x.ov.ownBlock = some g → M ≠ g := fun g hg => by
  rcases h.dead with e' | ⟨M', F, e', hk, hm, hs⟩
  · rw [e] at e'; cases e'
  · rw [e] at e'; cases e'
    obtain ⟨l, cap, _, _, hb, _⟩ := own_heap h.own hg
    exact hm.ne_blk hb
/-- Behind the append to the order. -/
theorem SeIs.grown {w5 : World} {ob : Obj} {g' cap' : Nat} {i : Int} (h : SeIs K w B s0 L cv mv x) (hgrow : (w.alloc ob).grownBy w5 x.ov.ownBlock) (hlie : x.ov.ownBlock = some g' ∨ g' = w.heap.size + 1)
    (hown : w5.ownsRow 0 3 1 (.slice (some ⟨g', 0, none⟩) (x.O.length + 1) cap') (x.O.length + 1) (x.O.map numV ++ [numV i])) :
    (w5.cell? ⟨B, 29, none⟩ = some x.ov ∧ w5.frozen? ⟨B, 29, none⟩ = false) ∧ SeIs K (w5.setCell ⟨B, 29, none⟩ (.slice (some ⟨g', 0, none⟩) (x.O.length + 1) cap')) B s0 L cv mv ⟨.slice (some ⟨g', 0, none⟩) (x.O.length + 1) cap', x.D, x.O ++ [i], x.fnd, x.n⟩ ∧
    Only (fun k => ¬ K k) w (w5.setCell ⟨B, 29, none⟩ (.slice (some ⟨g', 0, none⟩) (x.O.length + 1) cap')) := by
  have ho := grown_only hgrow
  have b5 := (h.blk.alloc ob).only ho (fun e => h.apart _ e rfl)
  have o6 := only_cell w5 B 29 (.slice (some ⟨g', 0, none⟩) (x.O.length + 1) cap')
  have o4 : Only (fun _ => False) w (w.alloc ob) := (Only.refl _ w).alloc ob
  have hne : B ≠ g' := blk_apart b5 hown rfl (by decide)
  refine ⟨⟨b5.at (seV_tail h.dl 0), b5.frozen _⟩, ⟨?_, h.dl, ((h.calls.only o4 (fun _ => False.elim)).only ho (fun k hk => h.ko k hk)).only o6 (fun k e => e ▸ h.kb), ?_, ?_, h.kb, ?_, ?_⟩, ?_⟩
  · have := b5.set 29 (.slice (some ⟨g', 0, none⟩) (x.O.length + 1) cap')
    rwa [show 29 = 29 + 0 from rfl, seV_set_tail h.dl] at this
  · have := own_only hown o6 (fun k hk e => by simp [Value.ownBlock] at hk; omega)
    rw [List.length_append, List.map_append]
    exact this
  · rcases h.dead with e | ⟨M, F, e, hk, hm, hs⟩
    · exact .inl e
    · exact .inr ⟨M, F, e, hk, ((hm.only o4 (fun h => h)).only ho (fun e' => h.mapNe e M e' rfl)).only o6 (fun e' => hm.ne_blk h.blk e'), hs⟩
  · intro g hg
    simp [Value.ownBlock] at hg
    subst hg
    rcases hlie with e | e
    · exact h.ko _ e
    · exact fun h' => by have := h.kl _ h'; omega
  · exact fun k hk => Nat.lt_of_lt_of_le (h.kl k hk) (Nat.le_trans o4.size (Nat.le_trans ho.size o6.size))
  · exact ((o4.mono (fun _ _ => False.elim)).step ho (fun k _ hk => h.ko k hk)).step o6 (fun k _ e => e ▸ h.kb)
/-- The order without its last place. -/
theorem own_init {w : World} {a : Option Addr} {c : Nat} {O : List Int} {j : Int} (h : w.ownsRow 0 3 1 (.slice a (O.length + 1) c) (O.length + 1) ((O ++ [j]).map numV)) : (∃ g, a = some ⟨g, 0, none⟩) ∧ O.length + 1 ≤ c ∧ w.ownsRow 0 3 1 (.slice a O.length c) O.length (O.map numV) := by
  rcases h.2 with ⟨e, _⟩ | ⟨g, cap, cur, e, h1, h2, h3, h4, h5, h6⟩
  · cases e
  · cases e
    refine ⟨⟨g, rfl⟩, h3, by simp, .inr ⟨g, c, cur, rfl, h1, h2, by omega, h4, h5, ?_⟩⟩
    have := congrArg (List.take (O.length * 1)) h6
    rw [List.take_take, Nat.min_eq_left (by omega)] at this
    rw [this]
    simp
end
theorem se_done {K : Nat → Prop} {w : World} {B : Nat} {s0 : StZ} {L : List CallZ} {cv mv : Value} {x : Se} (h : SeIs K w B s0 L cv mv x) : ListIn Value.bool w (some ⟨B, 5, none⟩) x.D := fun k b hb => by
  obtain ⟨hk, e⟩ := List.getElem?_eq_some_iff.1 hb
  exact ⟨B, 5, rfl, h.blk.lt, by rw [h.blk.at (seV_done hk), e]⟩

set_option maxHeartbeats 1000000 in
/-- take. -/
theorem se_take {K : Nat → Prop} {w : World} {B : Nat} {s0 : StZ} {L : List CallZ} {cv mv : Value} {x : Se} (h : SeIs K w B s0 L cv mv x) {i : Nat} (hi : i < 24) (hO : x.O.length ≤ 1000) :
    Calls Try.prog 43 #[.pointer (some ⟨B, 0, none⟩), numV (i : Int)] w fun e w' => e = .returned (.tuple #[]) ∧ (∃ ov', SeIs K w' B s0 L cv mv ⟨ov', x.D.set i true, x.O ++ [(i : Int)], x.fnd, x.n⟩) ∧ Only (fun k => ¬ K k) w w' := by
  obtain ⟨i0, hi0, hz0, hz1, hz2⟩ := info_parts infoInt
  have hb1 := h.blk.set (5 + i) (.bool true)
  rw [seV_set_done (by rw [h.dl]; exact hi)] at hb1
  have ho1 : Only (· = B) w (w.setCell ⟨B, 5 + i, none⟩ (.bool true)) := only_cell _ _ _ _
  have h1 := h.store hb1 ho1 (by simpa using h.dl) rfl h.own h.ko
  have q1 := h.onlyB ho1
  have f0 := h.blk.frozen (5 + i)
  have c0 := h.blk.at (seV_done (by rw [h.dl]; exact hi))
  clear ho1 hb1
  have c1 := h1.ovAt
  have r1 := h1.own
  have hi' : (i : Int) < 24 := by omega
  go_enter Try.func43, Try.ntmps43
  obtain ⟨oa, oc, oe⟩ := own_form r1
  simp only at c1 r1 oe
  obtain ⟨xov, xD, xO, xf, xn⟩ := x
  simp only at *
  subst oe
  go_upto_region 1 with fail
  generalize w.setCell ⟨B, 5 + i, none⟩ (.bool true) = w1 at *
  have A1 := Lib.hid (h1.alloc (.cells #[numV i] 3))
  have q2 := Lib.hid (q1.alloc (.cells #[numV i] 3))
  clear c0 f0 h hi'
  go_wp2_with (at_builtin; (refine wpList_append_lies _ rfl _ _ 23 rfl 0 3 i0 (.int .i64 0) 1 8 Try.underlying23 hi0 hz0 hz1 hz2 rfl (by decide) _ _ _ rfl (r1.alloc _) ⟨w1.heap.size, 0, none⟩ 1 1 [.int .i64 (i : Int)] rfl rfl (cell_one_new _ _ _) (by simp [Value.oneCell']) (by decide) (by simp only [maxLen]; first | omega | (simp; omega)) (by first | omega | (simp; omega) | simp) (by first | omega | (simp; omega) | simp) (w1.heap.size + 1) (by simp) ?_); intro g' cap' w9 hown' hgrow hlie hlt; obtain ⟨⟨c9, f9⟩, hend⟩ := h1.grown hgrow hlie hown'; have HE := Lib.hid hend; clear hown' hgrow hlie hlt hend)
  obtain ⟨h9, q9⟩ := HE.out
  go_end0
  exact ⟨rfl, ⟨_, h9⟩, q1.trans q9⟩

set_option maxHeartbeats 1000000 in
/-- giveBack. -/
theorem se_giveBack {K : Nat → Prop} {w : World} {B : Nat} {s0 : StZ} {L : List CallZ} {cv mv : Value} {ov : Value} {D : List Bool} {O : List Int} {j fnd : Int} {n : Nat} (h : SeIs K w B s0 L cv mv ⟨ov, D, O ++ [j], fnd, n⟩) {i : Nat} (hi : i < 24) (hO : O.length ≤ 1000) :
    Calls Try.prog 44 #[.pointer (some ⟨B, 0, none⟩), numV (i : Int)] w fun e w' => e = .returned (.tuple #[]) ∧ (∃ ov', SeIs K w' B s0 L cv mv ⟨ov', D.set i false, O, fnd, n⟩) ∧ Only (fun k => ¬ K k) w w' := by
  have hb1 := h.blk.set (5 + i) (.bool false)
  rw [seV_set_done (by rw [h.dl]; exact hi)] at hb1
  have ho1 := only_cell w B (5 + i) (.bool false)
  have h1 := h.store hb1 ho1 (by simpa using h.dl) rfl h.own h.ko
  have q1 := h.onlyB ho1
  have f0 := h.blk.frozen (5 + i)
  have c0 := h.blk.at (seV_done (by rw [h.dl]; exact hi))
  clear ho1 hb1
  have c1 := h1.ovAt
  have r1 := h1.own
  have f1 := h1.blk.frozen 29
  have hi' : (i : Int) < 24 := by omega
  obtain ⟨oa, oc, oe⟩ := own_form r1
  simp only [List.length_append, List.length_cons, List.length_nil, Nat.zero_add] at c1 r1 oe
  subst oe
  obtain ⟨⟨g, rfl⟩, hc, r2⟩ := own_init r1
  go_enter Try.func44, Try.ntmps44
  go_upto_region 1 with fail
  generalize w.setCell ⟨B, 5 + i, none⟩ (.bool false) = w1 at *
  have hb2 := h1.blk.set 29 (.slice (some ⟨g, 0, none⟩) O.length oc)
  rw [show 29 = 29 + 0 from rfl, seV_set_tail h1.dl] at hb2
  have h2 := Lib.hid (h1.store (x' := ⟨.slice (some ⟨g, 0, none⟩) O.length oc, D.set i false, O, fnd, n⟩) hb2 (only_cell _ _ _ _) h1.dl rfl r2 (fun k hk => h1.ko k hk))
  have q2 := Lib.hid (q1.trans (h1.onlyB (only_cell w1 B 29 (.slice (some ⟨g, 0, none⟩) O.length oc))))
  clear c0 f0 h hi' r1 r2 hb2 h1 q1
  go_region
  go_end0
  exact ⟨rfl, ⟨_, h2.out.drewN 1⟩, q2.out.drewN 1⟩

set_option maxHeartbeats 1000000 in
/-- next. -/
theorem se_next {K : Nat → Prop} {w : World} {B : Nat} {s0 : StZ} {L : List CallZ} {cv mv : Value} {x : Se} (h : SeIs K w B s0 L cv mv x) (hL : L.length ≤ 100000) :
    Calls Try.prog 34 #[.pointer (some ⟨B, 0, none⟩)] w fun e w' => ∃ r, e = .returned r ∧ w'.ownsRow w.heap.size 3 1 r (minZ L x.D).length ((minZ L x.D).map numV) ∧ Below w.heap.size w w' := by
  have c2 := h.callsAt
  have hm := hist_MinimalO (capd := 24) (h.drewN 1).calls.in hL (se_done (h.drewN 1))
  rw [h.dl] at hm
  obtain ⟨a, c, rfl, _⟩ := h.calls
  have HM := Lib.hid hm
  clear hm h
  go_enter Try.func34, Try.ntmps34
  go_wp2
  go_region_with (go_at_call 48; refine HM.out.mono ?_; rintro e w2 ⟨r, rfl, hr, hb⟩)
  all_goals go_wp2
  all_goals go_ret
  all_goals exact ⟨_, rfl, hr, (below_draws (Below.refl _ w) 1).trans hb⟩

end Go.Proofs.Ythngehpmoiojfaa
