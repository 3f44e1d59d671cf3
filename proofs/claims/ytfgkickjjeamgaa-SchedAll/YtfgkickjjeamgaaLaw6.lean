/- Layer 6: the document's example. -/
import Derived.Test.YtfgkickjjeamgaaAll6
import Derived.Test.YtfgkickjjeamgaaDeeds6
import Derived.Test.YtfgkickjjeamgaaIntsRef
import Derived.Test.YtfgkickjjeamgaaBase
namespace Go.Proofs.Ytfgkickjjeamgaa
open Go.RowKit

section
variable {D : Type}
/-- What Chain leaves is a step of these deeds. -/
theorem stepIs_chain {K : Nat → Prop} {isD : D → Value → World → Prop} {C : Nat → Prop} {w1 : World} {a : Option Addr} {n c base : Nat} {vals : List Value} {ds : List D}
    (hown : w1.ownsRow base 24 1 (.slice a n c) n vals) (hlen : ds.length = n) (hb : C w1.heap.size ∨ K w1.heap.size) (hc : ∀ k, base ≤ k → k < w1.heap.size → K k)
    (hd : ∀ (i : Nat) d v, ds[i]? = some d → vals[i]? = some v → isD d v (w1.alloc (.cells #[.slice a n c] 53))) :
    StepIs K isD C (w1.alloc (.cells #[.slice a n c] 53)) (stepV n w1.heap.size) ds := by
  subst hlen
  cases ds with
  | nil => exact .inl ⟨rfl, rfl⟩
  | cons d r =>
    obtain ⟨h0, ⟨_, h1⟩ | ⟨g, cap, cur, e, h1, h2, h3, h4⟩⟩ := hown
    · simp at h1
    · cases e
      have hown' : w1.ownsRow base 24 1 (.slice (some ⟨g, 0, none⟩) (r.length + 1) c) (r.length + 1) vals := ⟨h0, .inr ⟨g, c, cur, rfl, h1, h2, h3, h4⟩⟩
      refine .inr ⟨by simp, w1.heap.size, g, 0, c, by simp [stepV], hb, hc g h1 (hown'.lt g rfl).2, Blk.new (l := [.slice (some ⟨g, 0, none⟩) (r.length + 1) c]), h3, fun i d' hd' => ?_⟩
      have hi : i < vals.length := by have := (List.getElem?_eq_some_iff.1 hd').1; rw [h0, Nat.mul_one]; exact this
      have hcell := hown'.cells (g := g) rfl i _ (List.getElem?_eq_getElem hi)
      rw [addr_add] at hcell
      exact ⟨vals[i], only_cell hcell ((Only.refl (fun _ => False) _).alloc _) (fun h => h), hd i d' _ hd' (List.getElem?_eq_getElem hi)⟩
end

/-- More is kept. -/
theorem StepIs.wide {D : Type} {K K' : Nat → Prop} {isD : D → Value → World → Prop} {C : Nat → Prop} {w : World} {v : Value} {ds : List D} (h : StepIs K isD C w v ds) (hK : ∀ k, K k → K' k) : StepIs K' isD C w v ds := by
  rcases h with h | ⟨h0, B, Dk, o, cap, h1, h2⟩
  · exact .inl h
  · exact .inr ⟨h0, B, Dk, o, cap, h1, h2.cb.imp id (hK _), hK _ h2.cd, h2.blk, h2.le, h2.at_⟩

/-- A deed that does nothing. -/
def yesAct : Unit → Unit → Unit × Bool := fun _ _ => ((), true)
def yesD : Unit → Value → World → Prop := fun _ v _ => v = fnV 14 #[]
def yesI : (Nat → Prop) → Unit → World → Prop := fun _ _ _ => True
theorem yes_call (w : World) : Calls Try.prog 14 #[] w fun e w' => e = .returned (.bool true) ∧ w = w' := by
  go_enter Try.func14, Try.ntmps14
  go_wp2
  go_ret
  exact ⟨rfl, rfl⟩
theorem yes_deeds (K : Nat → Prop) : Deeds K yesAct (fun _ _ => True) yesI yesD where
  frame := fun _ _ _ _ => trivial
  dval := fun h => ⟨_, _, h, fun _ _ => by kernel_rfl⟩
  dframe := fun h _ => h
  act_ := fun {N x d f c w} _ _ hd => by
    cases hd
    refine (yes_call w).mono ?_
    rintro e w' ⟨rfl, rfl⟩
    exact ⟨rfl, Only.refl _ _, trivial⟩

theorem awake_run : RS.run (chainM 2 yesAct) ((), [[(), ()], [(), ()]]) [] = ⟨((), [[], []]), [0, 1, 0, 1], 4⟩ := by
  unfold RS.run
  rw [show (65537 : Nat) = 65534 + 1 + 1 + 1 from rfl, RS.rounds_next _ (by decide), RS.rounds_next _ (by decide), RS.rounds_last _ (by decide)]
  rfl

theorem chain_yes (w : World) : Calls Try.prog 12 #[.slice (some ⟨w.heap.size, 0, none⟩) 2 2] (w.alloc (.cells #[fnV 14 #[], fnV 14 #[]] 24)) fun e w' =>
    ∃ B, e = .returned (fnV 24 #[.pointer (some ⟨B, 0, none⟩)]) ∧ Below w.heap.size w w' ∧ StepIs (fun k => k < w'.heap.size) yesD (fun _ => False) w' (fnV 24 #[.pointer (some ⟨B, 0, none⟩)]) [(), ()] := by
  have hblk : Blk 24 (w.alloc (.cells #[fnV 14 #[], fnV 14 #[]] 24)) w.heap.size [fnV 14 #[], fnV 14 #[]] := Blk.new (l := [fnV 14 #[], fnV 14 #[]])
  have hs : SliceK (w.alloc (.cells #[fnV 14 #[], fnV 14 #[]] 24)) 1 (.slice (some ⟨w.heap.size, 0, none⟩) 2 2) 2 [fnV 14 #[], fnV 14 #[]] :=
    ⟨rfl, .inr ⟨_, 0, 2, rfl, Nat.le_refl _, hblk.lt, cellsAt_of_heap hblk⟩⟩
  refine (sched_Chain hs (fun v hv => .inr ⟨14, #[], by simpa using hv⟩) (by decide)).mono ?_
  rintro e w' ⟨w1, a, c, rfl, rfl, hB, hown⟩
  have hsz : (w.alloc (.cells #[fnV 14 #[], fnV 14 #[]] 24)).heap.size = w.heap.size + 1 := by simp
  have h1 := hB.size
  refine ⟨w1.heap.size, rfl, ?_, ?_⟩
  · exact (((Below.refl w.heap.size w).alloc (Nat.le_refl _) _).trans (hB.mono (by omega))).alloc (by omega) _
  · refine stepIs_chain hown rfl (.inr (by simp)) (fun k h2 h3 => by simp; omega) (fun i d v _ hv => ?_)
    have : v ∈ [fnV 14 #[], fnV 14 #[]] := List.mem_of_getElem? hv
    simpa [yesD] using this

theorem awake_told {w w1 w2 : World} {B1 B2 : Nat} (h1 : Below w.heap.size w w1) (s1 : StepIs (fun k => k < w1.heap.size) yesD (fun _ => False) w1 (fnV 24 #[.pointer (some ⟨B1, 0, none⟩)]) [(), ()])
    (h2 : Below w1.heap.size w1 w2) (s2 : StepIs (fun k => k < w2.heap.size) yesD (fun _ => False) w2 (fnV 24 #[.pointer (some ⟨B2, 0, none⟩)]) [(), ()]) :
    Calls Try.prog 8 #[.slice none 0 0, .slice (some ⟨w2.heap.size, 0, none⟩) 2 2] (w2.alloc (.cells #[fnV 24 #[.pointer (some ⟨B1, 0, none⟩)], fnV 24 #[.pointer (some ⟨B2, 0, none⟩)]] 45)) fun e w' =>
      ∃ a c, e = .returned (.agg #[.slice a 4 c, numV 4, numV 0]) ∧ NumsIn w' (.slice a 4 c) [0, 1, 0, 1] ∧ Below w.heap.size w w' := by
  have z1 := h1.size
  have z2 := h2.size
  have hblk : Blk 45 (w2.alloc (.cells #[fnV 24 #[.pointer (some ⟨B1, 0, none⟩)], fnV 24 #[.pointer (some ⟨B2, 0, none⟩)]] 45)) w2.heap.size [fnV 24 #[.pointer (some ⟨B1, 0, none⟩)], fnV 24 #[.pointer (some ⟨B2, 0, none⟩)]] := Blk.new (l := [fnV 24 #[.pointer (some ⟨B1, 0, none⟩)], fnV 24 #[.pointer (some ⟨B2, 0, none⟩)]])
  have h3 : Below w2.heap.size w2 (w2.alloc (.cells #[fnV 24 #[.pointer (some ⟨B1, 0, none⟩)], fnV 24 #[.pointer (some ⟨B2, 0, none⟩)]] 45)) := (Below.refl _ _).alloc (Nat.le_refl _) _
  have z3 := h3.size
  generalize w2.alloc (.cells #[fnV 24 #[.pointer (some ⟨B1, 0, none⟩)], fnV 24 #[.pointer (some ⟨B2, 0, none⟩)]] 45) = w3 at *
  have hs : SliceK w3 1 (.slice (some ⟨w2.heap.size, 0, none⟩) 2 2) 2 [fnV 24 #[.pointer (some ⟨B1, 0, none⟩)], fnV 24 #[.pointer (some ⟨B2, 0, none⟩)]] :=
    ⟨rfl, .inr ⟨_, 0, 2, rfl, Nat.le_refl _, hblk.lt, cellsAt_of_heap hblk⟩⟩
  have hinv : chainInv 2 (fun k => k < w3.heap.size) (fun _ => True) yesI yesD (fun _ => False) ((), [[(), ()], [(), ()]]) [fnV 24 #[.pointer (some ⟨B1, 0, none⟩)], fnV 24 #[.pointer (some ⟨B2, 0, none⟩)]] w3 := by
    refine ⟨fun _ => False, trivial, fun _ => False.elim, fun _ _ => id, fun _ => False.elim, fun _ hk => hk, fun _ => False.elim, trivial, rfl, rfl, fun t v ds hv hds => ?_⟩
    match t, hv, hds with
    | 0, hv, hds =>
      cases hv; cases hds
      exact (s1.frame (yes_deeds _) (fun _ h => h) ((Only.of_below h2 _).trans (Only.of_below h3 _))).wide (fun k hk => by omega)
    | 1, hv, hds =>
      cases hv; cases hds
      exact (s2.frame (yes_deeds _) (fun _ h => h) (Only.of_below h3 _)).wide (fun k hk => by omega)
    | t + 2, hv, _ => simp at hv
  refine (sched_Run (chain_sys (yes_deeds _) 2 (fun _ => True) (fun _ _ _ _ _ _ => trivial) (fun _ _ _ _ _ _ => trivial)) hinv hs (by decide) (pa := none) (pc := 0) (L := []) (fun _ _ k x hx => by simp at hx) (by decide)).mono ?_
  rw [awake_run]
  rintro e w' ⟨⟨M, mv, vs, rfl, hN, _⟩, ho⟩
  obtain ⟨a, c, rfl, _⟩ := hN.form
  exact ⟨a, c, rfl, hN, (h1.trans ((h2.mono z1).trans (h3.mono (by omega)))).trans (ho.below (by omega) (fun k hk h => h (by omega)))⟩

theorem awake6 (w : World) : Calls Try.prog 6 #[] w fun e w' => e = .returned (.bool true) ∧ Below w.heap.size w w' := by
  go_enter Try.func6, Try.ntmps6
  go_wp2_with fail
  refine (chain_yes w).mono ?_
  rintro e w1 ⟨B1, rfl, hB1, hS1⟩
  have K1 := Lib.hid (And.intro hB1 hS1)
  clear hB1 hS1
  go_wp2_with fail
  refine (chain_yes w1).mono ?_
  rintro e w2 ⟨B2, rfl, hB2, hS2⟩
  have K2 := Lib.hid (And.intro hB2 hS2)
  clear hB2 hS2
  go_wp2_with fail
  refine (awake_told K1.out.1 K1.out.2 K2.out.1 K2.out.2).mono ?_
  rintro e w3 ⟨a, c, rfl, hN, hB⟩
  have K3 := Lib.hid (And.intro hN hB)
  clear hN hB
  go_wp2_with fail
  have hb4 : Below w3.heap.size w3 ((w3.alloc (.cells #[.slice a 4 c, .int .i64 4, .int .i64 0] 33)).alloc (.cells #[.int .i64 0, .int .i64 1, .int .i64 0, .int .i64 1] 3)) := ((Below.refl _ _).alloc (Nat.le_refl _) _).alloc (by simp) _
  have hblk : Blk 3 ((w3.alloc (.cells #[.slice a 4 c, .int .i64 4, .int .i64 0] 33)).alloc (.cells #[.int .i64 0, .int .i64 1, .int .i64 0, .int .i64 1] 3)) (w3.heap.size + 1) [numV 0, numV 1, numV 0, numV 1] := by
    have := Blk.new (t := 3) (W := w3.alloc (.cells #[.slice a 4 c, .int .i64 4, .int .i64 0] 33)) (l := [numV 0, numV 1, numV 0, numV 1])
    simpa using this
  have hlit : NumsIn ((w3.alloc (.cells #[.slice a 4 c, .int .i64 4, .int .i64 0] 33)).alloc (.cells #[.int .i64 0, .int .i64 1, .int .i64 0, .int .i64 1] 3)) (.slice (some ⟨w3.heap.size + 1, 0, none⟩) 4 4) [0, 1, 0, 1] := ⟨rfl, .inr ⟨_, 0, 4, rfl, Nat.le_refl _, hblk.lt, cellsAt_of_heap hblk⟩⟩
  have h1t : Blk 33 ((w3.alloc (.cells #[.slice a 4 c, .int .i64 4, .int .i64 0] 33)).alloc (.cells #[.int .i64 0, .int .i64 1, .int .i64 0, .int .i64 1] 3)) w3.heap.size [.slice a 4 c, .int .i64 4, .int .i64 0] := (Blk.new (l := [.slice a 4 c, .int .i64 4, .int .i64 0])).alloc _
  have c1 := h1t.at (o := 1) rfl
  have KB := Lib.hid (And.intro (K3.out.1.below hb4) (And.intro hlit (K3.out.2.trans (hb4.mono K3.out.2.size))))
  clear hb4 hblk hlit h1t
  generalize (w3.alloc (.cells #[.slice a 4 c, .int .i64 4, .int .i64 0] 33)).alloc (.cells #[.int .i64 0, .int .i64 1, .int .i64 0, .int .i64 1] 3) = w4 at *
  refine (ref_Ints _ _ [0, 1, 0, 1] [0, 1, 0, 1] w4 KB.out.1 KB.out.2.1 (by decide) (by decide)).mono ?_
  rintro e w5 ⟨rfl, h5⟩
  have c1 := (h5.cell (p := ⟨w3.heap.size, 1, none⟩) (World.block_lt_of_cell? _ _ c1)).trans c1
  rw [show decide (([0, 1, 0, 1] : List Int) = [0, 1, 0, 1]) = true by decide]
  have B5 := Lib.hid h5
  clear h5
  go_wp2
  go_ret
  exact ⟨rfl, KB.out.2.2.trans (B5.out.mono KB.out.2.2.size)⟩

end Go.Proofs.Ytfgkickjjeamgaa
