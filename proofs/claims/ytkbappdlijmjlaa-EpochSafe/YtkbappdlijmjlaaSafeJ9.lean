/- EpochSafe: its end. -/
import Derived.Test.YtkbappdlijmjlaaSafeI9
import Derived.Test.YtkbappdlijmjlaaMade
namespace Go.Proofs.Ytkbappdlijmjlaa
open Go.RowKit

theorem unpin_pins {x : Ep} (hl : x.pins.length = 8) {t : Nat} (ht : t < 8) : (if isPin x (t : Int) then x.pins.set ((t : Int)).toNat none else x.pins) = x.pins.set t none := by
  split
  · rw [Int.toNat_natCast]
  · rename_i hb
    have ht' : t < x.pins.length := by rw [hl]; exact ht
    unfold isPin hasT at hb
    simp [ht', List.getD_eq_getElem?_getD] at hb
    rw [← hb, List.set_getElem_self]
/-- The first j threads aren't pinned. -/
def Off (pins : List (Option Nat)) (j : Nat) : Prop := pins.length = 8 ∧ ∀ s, s < j → pins[s]? = some none
theorem Off.step {x : Ep} {j : Nat} (h : Off x.pins j) (hj : j < 8) : Off (if isPin x (j : Int) then x.pins.set ((j : Int)).toNat none else x.pins) (j + 1) := by
  rw [unpin_pins h.1 hj]
  refine ⟨by simpa using h.1, fun s hs => ?_⟩
  by_cases e : j = s
  · subst e
    rw [List.getElem?_set_self (by rw [h.1]; exact hj)]
  · rw [List.getElem?_set_ne e]
    exact h.2 s (by omega)
theorem Off.all {pins : List (Option Nat)} (h : Off pins 8) : ∀ p ∈ pins, p = none := fun p hp => by
  obtain ⟨i, hi, rfl⟩ := List.getElem_of_mem hp
  have := h.2 i (by rw [← h.1]; exact hi)
  rw [List.getElem?_eq_getElem hi] at this
  simpa using this
theorem Off.behind {x : Ep} (h : Off x.pins 8) : behindZ x = false := by
  unfold behindZ
  rw [List.any_eq_false]
  intro p hp
  rw [h.all p hp]
  simp
section
variable {x : Ep} {H : List (List Bool)} {E : List Nat} {T : List Bool} {W : List (Int × Nat)}
theorem SafeZ.rest (h : SafeZ x H E T W) {pins : List (Option Nat)} (hp : Off pins 8) {H' : List (List Bool)} (hl : H'.length = H.length) (hf : ∀ g ∈ H', ∀ b ∈ g, b = false) : SafeZ ⟨x.now, pins, x.q⟩ H' E T W :=
  ⟨h.ag.pins _, hp.1, by rw [hl]; exact h.hl, h.tl, fun t p ht => (by
    have := hp.all _ (List.mem_of_getElem? ht)
    cases this), fun k t g hk hs => (by
    have := hf g (List.mem_of_getElem? hk) true (List.mem_of_getElem? hs)
    cases this), h.en, h.wd, h.we, h.te⟩
/-- Three more: all is told. -/
theorem SafeZ.done (h : SafeZ x H E T W) {n : Nat} (hn : x.now = n + 3) (hE : ∀ (k e : Nat), E[k]? = some e → e ≤ n) : W = [] := by
  rw [List.eq_nil_iff_forall_not_mem]
  intro p hp
  obtain ⟨k, e1, e2⟩ := h.we p hp
  have := hE k p.2 e2
  have := (h.ag.win p hp).2
  omega
theorem SafeZ.all (h : SafeZ x H E T []) {k : Nat} (hk : k < H.length) (h3 : H.length ≤ 300) : T[k]? = some true := by
  have hk1 : k < E.length := by rw [← h.hl]; exact hk
  have hk2 : k < T.length := by rw [h.tl]; omega
  have hE : E[k]? = some E[k] := List.getElem?_eq_getElem hk1
  have h1 := h.te k _ hE
  have hT : T[k]? = some T[k] := List.getElem?_eq_getElem hk2
  cases hb : T[k] with
  | true => rw [hT, hb]
  | false =>
    rw [hT, hb] at h1
    have := h1.1 rfl
    simp at this
end
theorem flat_false (n : Nat) : (List.replicate n (List.replicate 8 false)).flatMap row8 = List.replicate (n * 8) (Value.bool false) := by
  induction n with
  | zero => rfl
  | succ n ih =>
    rw [List.replicate_succ, List.flatMap_cons, ih, Nat.succ_mul, Nat.add_comm, ← List.replicate_append_replicate]
    rfl
theorem made_8 (n : Nat) : (madeCells (Value.agg (row8 (List.replicate 8 false)).toArray).cells (n * 8)).toList = (List.replicate n (List.replicate 8 false)).flatMap row8 := by
  have hz : (Value.agg (row8 (List.replicate 8 false)).toArray).cells = Array.replicate 8 (Value.bool false) := rfl
  rw [flat_false, hz]
  apply List.ext_getElem
  · simp [madeCells]
  · intro i h1 h2
    have h3 : i % 8 < 8 := Nat.mod_lt _ (by decide)
    simp [madeCells]
    rw [getElem!_pos _ _ (by simpa using h3), Array.getElem_replicate]
section
variable {w1 w w' : World} {B P Gw Gt Rt : Nat} {v v' : Nat → Value} {x x' : Ep} {wv wv' : Value} {H H' : List (List Bool)} {T T' : List Bool}
/-- A new row of who. -/
theorem SfIs.fresh (h : SfIs w1 w B P Gw Gt Rt v x wv H T) {n : Nat} {M : Array Value} (hM : M.toList = (List.replicate n (List.replicate 8 false)).flatMap row8) (hn : n ≤ maxLen) (he : (w.setCell ⟨Gw, 0, none⟩ (.slice (some ⟨w.heap.size, 0, none⟩) n n)).alloc (.cells M 42) = w') :
    SfIs w1 w' B P Gw Gt Rt v x (.slice (some ⟨w.heap.size, 0, none⟩) n n) (List.replicate n (List.replicate 8 false)) T := by
  have o6 := only_at w Gw 0 (.slice (some ⟨w.heap.size, 0, none⟩) n n)
  have hsz : (w.setCell ⟨Gw, 0, none⟩ (.slice (some ⟨w.heap.size, 0, none⟩) n n)).heap.size = w.heap.size := by simp [World.setCell]
  have hb6 := h.who.wb.set 0 (.slice (some ⟨w.heap.size, 0, none⟩) n n)
  have ht6 := h.who.tb.only o6 (blk_ne h.who.tb h.who.wb (by decide))
  have hr6 := h.who.tr.only o6 (blk_ne h.who.tr h.who.wb (by decide))
  have hB := Blk.new (W := w.setCell ⟨Gw, 0, none⟩ (.slice (some ⟨w.heap.size, 0, none⟩) n n)) (t := 42) (l := M.toList)
  have oA : Only (· = Gw) w w' := by rw [← he]; exact o6.alloc _
  have hb7 := hb6.alloc (.cells M 42)
  have ht7 := ht6.alloc (.cells M 42)
  have hr7 := hr6.alloc (.cells M 42)
  rw [he] at hb7 ht7 hr7
  rw [Array.toArray_toList, he, hsz] at hB
  have hlen : M.toList.length = n * 8 := by rw [hM, flat_false]; simp
  have hN := h.below.size
  refine h.turnWho ⟨hb7, ?_, fun g hg => ?_, ht7, hr7, h.who.tl, h.who.lows⟩ (oA.mono fun _ _ e => .inl e)
  · rw [List.length_replicate]
    refine ⟨by rw [← hM]; exact hlen, .inr ⟨w.heap.size, n, M, rfl, hN, hB, Nat.le_refl _, hn, by rw [← Array.length_toList]; exact hlen, ?_⟩⟩
    rw [← hM, List.take_of_length_le (by omega)]
  · rw [(List.mem_replicate.1 hg).2]; simp
end

end Go.Proofs.Ytkbappdlijmjlaa
