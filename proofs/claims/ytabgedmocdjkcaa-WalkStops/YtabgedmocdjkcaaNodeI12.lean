/- What the program's layer 12 (package node) comes to: what is told of a node. -/
import Derived.Test.YtabgedmocdjkcaaSet3
import Derived.Test.YtabgedmocdjkcaaMapB12
import Derived.Test.YtabgedmocdjkcaaJoin18
namespace Go.Proofs.Ytabgedmocdjkcaa
open Go.RowKit Go.Shelf

theorem SetIn.form {W : World} {v : Value} {L : List Int} (h : SetIn W v L) : ∃ a n c, v = .agg #[.slice a n c] := by
  obtain ⟨⟨s, rfl, hs⟩, _⟩ := h
  rcases hs.2 with ⟨rfl, _⟩ | ⟨b, off, cap, rfl, _⟩
  · exact ⟨_, _, _, rfl⟩
  · exact ⟨_, _, _, rfl⟩
theorem setIn_nil (W : World) : SetIn W (.agg #[.slice none 0 0]) [] := ⟨⟨_, rfl, rfl, .inl ⟨rfl, rfl⟩⟩, List.Pairwise.nil⟩
theorem kidsIn_nil (W : World) : KidsIn W (.agg #[.slice none 0 0]) [] := ⟨⟨_, rfl, rfl, .inl ⟨rfl, rfl⟩⟩, List.Pairwise.nil⟩

/-- A slice stays as it is where another block is written to. -/
theorem sliceK_set {W : World} {k n : Nat} {s : Value} {xs : List Value} (h : SliceK W k s n xs) {b o : Nat} {u : Value} (hoff : ∀ g off n c, s = .slice (some ⟨g, off, none⟩) n c → g ≠ b) : SliceK (W.setCell ⟨b, o, none⟩ u) k s n xs := by
  obtain ⟨h0, h1 | ⟨g, off, cap, hv, h2, h3, h4⟩⟩ := h
  · exact ⟨h0, .inl h1⟩
  · refine ⟨h0, .inr ⟨g, off, cap, hv, h2, by simpa [World.setCell] using h3, fun j v hj => ?_⟩⟩
    rw [← h4 j v hj]
    exact World.cell?_of_block (w := W) (Below.heap_setCell _ _ _ _ (fun e => hoff _ _ _ _ hv e))
theorem apart_off {W : World} {k m n b : Nat} {s r : Value} {xs : List Value} (h : SliceK W k s m xs) (ha : Apart n (.agg #[s]) (.agg #[r])) (hb : W.heap.size ≤ b) (hn : b < n) : ∀ g off n c, r = .slice (some ⟨g, off, none⟩) n c → g ≠ b := fun g off n' c hr => by
  rcases ha with ha | ⟨g', N, hg, hr'⟩
  · cases ha
    rcases h.2 with ⟨hv, _⟩ | ⟨g', off', cap, hv, _, hlt, _⟩
    · rw [hv] at hr; cases hr
    · rw [hv] at hr; cases hr; omega
  · cases hr'
    cases hr; omega
theorem SetIn.away {W W' : World} {v r : Value} {L M : List Int} {n b o : Nat} {u : Value} (h : SetIn W v L) (h' : SetIn W' r M) (ha : Apart n v r) (hb : W.heap.size ≤ b) (hn : b < n) : SetIn (W'.setCell ⟨b, o, none⟩ u) r M := by
  obtain ⟨⟨s, rfl, hs⟩, _⟩ := h
  obtain ⟨⟨s', rfl, hs'⟩, hu⟩ := h'
  exact ⟨⟨s', rfl, sliceK_set hs' (apart_off hs ha hb hn)⟩, hu⟩
theorem KidsIn.away {W W' : World} {v r : Value} {L M : List Ent} {n b o : Nat} {u : Value} (h : KidsIn W v L) (h' : KidsIn W' r M) (ha : Apart n v r) (hb : W.heap.size ≤ b) (hn : b < n) : KidsIn (W'.setCell ⟨b, o, none⟩ u) r M := by
  obtain ⟨⟨s, rfl, hs⟩, _⟩ := h
  obtain ⟨⟨s', rfl, hs'⟩, hu⟩ := h'
  exact ⟨⟨s', rfl, sliceK_set hs' (apart_off hs ha hb hn)⟩, hu⟩

/-- A slice lies in none of these blocks. -/
def Off (S : Nat → Prop) (v : Value) : Prop := ∀ g off n c, v = .slice (some ⟨g, off, none⟩) n c → ¬ S g
theorem off_nil (S : Nat → Prop) : Off S (.slice none 0 0) := fun _ _ _ _ h => by cases h
theorem Off.apart {S : Nat → Prop} {n m : Nat} {s r : Value} (h : Off S s) (ha : Apart n (.agg #[s]) (.agg #[r])) (hS : ∀ k, m ≤ k → ¬ S k) (hn : m ≤ n) : Off S r := fun g off n' c hr => by
  rcases ha with ha | ⟨g', N, hg, hr'⟩
  · cases ha; exact h g off n' c hr
  · cases hr'
    cases hr
    exact hS _ (by omega)
theorem Off.turn {S S' : Nat → Prop} {k n : Nat} {W : World} {s : Value} {xs : List Value} (h : Off S s) (hs : SliceK W k s n xs) (hS : ∀ i, i < W.heap.size → S' i → S i) : Off S' s := fun g off m c he hg => by
  rcases hs.2 with ⟨hv, _⟩ | ⟨g', off', cap, hv, _, hlt, _⟩
  · rw [hv] at he; cases he
  · rw [hv] at he; cases he
    exact h _ _ _ _ hv (hS _ hlt hg)
theorem sliceK_only {W W' : World} {k n : Nat} {s : Value} {xs : List Value} {S : Nat → Prop} (h : SliceK W k s n xs) (hO : Only S W W') (hoff : Off S s) : SliceK W' k s n xs := by
  obtain ⟨h0, h1 | ⟨g, off, cap, hv, h2, h3, h4⟩⟩ := h
  · exact ⟨h0, .inl h1⟩
  · refine ⟨h0, .inr ⟨g, off, cap, hv, h2, Nat.lt_of_lt_of_le h3 hO.size, fun j v hj => ?_⟩⟩
    rw [← h4 j v hj]
    exact World.cell?_of_block (w := W) (hO.block g h3 (hoff _ _ _ _ hv))

/-- A node in a block of its own, none of S: its subscribers, its kids (levels with blocks), how many are below it. -/
def NdIs (S : Nat → Prop) (W : World) (b : Nat) (L : List Int) (E : List Ent) (z : Nat) : Prop :=
  ∃ a1 n1 c1 a2 n2 c2, Blk 83 W b [.slice a1 n1 c1, .slice a2 n2 c2, .int .i64 (z : Int)] ∧ SetIn W (.agg #[.slice a1 n1 c1]) L ∧ KidsIn W (.agg #[.slice a2 n2 c2]) E ∧ Off S (.slice a1 n1 c1) ∧ Off S (.slice a2 n2 c2) ∧ ¬ S b
theorem NdIs.turn {S S' T : Nat → Prop} {W W' : World} {b : Nat} {L : List Int} {E : List Ent} {z : Nat} (h : NdIs S W b L E z) (hO : Only T W W') (hT : ∀ k, T k → S k) (hS : ∀ k, k < W.heap.size → S' k → S k) : NdIs S' W' b L E z := by
  obtain ⟨a1, n1, c1, a2, n2, c2, h1, ⟨⟨s, hv, hs⟩, hu⟩, ⟨⟨m, hm, hk⟩, hku⟩, h4, h5, h6⟩ := h
  cases hv
  cases hm
  exact ⟨a1, n1, c1, a2, n2, c2, h1.only hO (fun e => h6 (hT _ e)), ⟨⟨_, rfl, sliceK_only hs hO (fun g o n c he e => h4 g o n c he (hT _ e))⟩, hu⟩, ⟨⟨_, rfl, sliceK_only hk hO (fun g o n c he e => h5 g o n c he (hT _ e))⟩, hku⟩,
    h4.turn hs hS, h5.turn hk hS, fun e => h6 (hS _ h1.lt e)⟩
theorem NdIs.below {S : Nat → Prop} {W W' : World} {b : Nat} {L : List Int} {E : List Ent} {z : Nat} (h : NdIs S W b L E z) (hb : Below W.heap.size W W') : NdIs S W' b L E z := by
  obtain ⟨a1, n1, c1, a2, n2, c2, h1, h2, h3, h4⟩ := h
  exact ⟨a1, n1, c1, a2, n2, c2, h1.below hb h1.lt, h2.below hb, h3.below hb, h4⟩
/-- A node or none: its subscribers, its kids, how many it is. -/
def PIs (S : Nat → Prop) (W : World) (p : Value) (L : List Int) (E : List Ent) (n : Nat) : Prop :=
  (p = .pointer none ∧ L = [] ∧ E = [] ∧ n = 0) ∨ ∃ b, p = .pointer (some ⟨b, 0, none⟩) ∧ 1 ≤ n ∧ NdIs S W b L E (n - 1)
theorem PIs.below {S : Nat → Prop} {W W' : World} {p : Value} {L : List Int} {E : List Ent} {n : Nat} (h : PIs S W p L E n) (hb : Below W.heap.size W W') : PIs S W' p L E n := by
  rcases h with h | ⟨b, hp, h1, h⟩
  · exact .inl h
  · exact .inr ⟨b, hp, h1, h.below hb⟩
theorem pIs_nil {S : Nat → Prop} (W : World) : PIs S W (.pointer none) [] [] 0 := .inl ⟨rfl, rfl, rfl, rfl⟩

/-- A struct of three cells that is copied into a new block. -/
theorem new_below (w : World) (o : Obj) : Below w.heap.size w (w.alloc o) := (Below.refl _ _).alloc (Nat.le_refl _) _
set_option maxRecDepth 100000 in
theorem nd_value {S : Nat → Prop} (p : Value) (L : List Int) (E : List Ent) (n : Nat) (w : World) (h : PIs S w p L E n) :
    ∃ a1 n1 c1 a2 n2 c2, SetIn w (.agg #[.slice a1 n1 c1]) L ∧ KidsIn w (.agg #[.slice a2 n2 c2]) E ∧ (∀ b, p = .pointer (some ⟨b, 0, none⟩) → w.cell? ⟨b, 1, none⟩ = some (.slice a2 n2 c2)) ∧ Off S (.slice a1 n1 c1) ∧ Off S (.slice a2 n2 c2) ∧ ∀ W, Below w.heap.size w W →
      Calls Try.prog 51 #[p] W fun e w' => e = .returned (.agg #[.slice a1 n1 c1, .slice a2 n2 c2, .int .i64 ((n - 1 : Nat) : Int)]) ∧ Below W.heap.size W w' := by
  rcases h with ⟨rfl, rfl, rfl, rfl⟩ | ⟨b, rfl, h1, a1, n1, c1, a2, n2, c2, hb, hs, hk, ho1, ho2, ho3⟩
  · refine ⟨_, _, _, _, _, _, setIn_nil _, kidsIn_nil _, (by intro b hb; cases hb), off_nil _, off_nil _, fun W hW => ?_⟩
    clear hW
    go_enter Try.func51, Try.ntmps51
    go_wp2
    refine bodyPost_ret (by simp [results, Try.f51, go_sem]; rfl) rfl ?_
    exact ⟨rfl, new_below _ _⟩
  · refine ⟨_, _, _, _, _, _, hs, hk, (by intro b' hb'; cases hb'; exact hb.at (o := 1) rfl), ho1, ho2, fun W hW => ?_⟩
    have hb := hb.below hW hb.lt
    have d0 : ∀ o, (W.alloc o).cell? ⟨b, 0, none⟩ = some (.slice a1 n1 c1) := fun o => (hb.alloc o).at (o := 0) rfl
    have d1 : ∀ o, (W.alloc o).cell? ⟨b, 1, none⟩ = some (.slice a2 n2 c2) := fun o => (hb.alloc o).at (o := 1) rfl
    have d2 : ∀ o, (W.alloc o).cell? ⟨b, 2, none⟩ = some (.int .i64 ((n - 1 : Nat) : Int)) := fun o => (hb.alloc o).at (o := 2) rfl
    clear hs hk hb hW
    go_enter Try.func51, Try.ntmps51
    go_wp2
    refine bodyPost_ret (by simp [results, Try.f51, go_sem]; rfl) rfl ?_
    exact ⟨rfl, new_below _ _⟩

/-- Where a node's parts lie. -/
theorem field_subs (x y z : Value) (w : World) : Sem.run Try.prog (Instr.field 83 (.agg #[x, y, z]) 0) w = .ok (.agg #[x]) w := by kernel_rfl
theorem field_kids (x y z : Value) (w : World) : Sem.run Try.prog (Instr.field 83 (.agg #[x, y, z]) 1) w = .ok (.agg #[y]) w := by kernel_rfl
theorem nd_Subs {S : Nat → Prop} (p : Value) (L : List Int) (E : List Ent) (n : Nat) (w : World) (h : PIs S w p L E n) :
    Calls Try.prog 35 #[p] w fun e w' => ∃ a1 n1 c1, e = .returned (.agg #[.slice a1 n1 c1]) ∧ SetIn w (.agg #[.slice a1 n1 c1]) L ∧ Below w.heap.size w w' := by
  have hf0 := field_subs
  have hB := new_below w
  obtain ⟨a1, n1, c1, a2, n2, c2, hs, hk, _, ho1, ho2, hval⟩ := nd_value p L E n w h
  have HV := Lib.hid hval
  clear h hval
  go_enter Try.func35, Try.ntmps35
  go_wp2_with fail
  refine (HV.out _ (hB _)).mono ?_
  rintro e w' ⟨rfl, hB2⟩
  have B2 := Lib.hid (below_step (hB _) hB2)
  have k1 := (hB2.cell (p := ⟨w.heap.size, 0, none⟩) (by simp)).trans (show (w.alloc (.cells #[.slice none 0 0] 60)).cell? ⟨w.heap.size, 0, none⟩ = some (.slice none 0 0) by simp)
  have f1 := (hB2.frozen (p := ⟨w.heap.size, 0, none⟩) (by simp)).trans (show (w.alloc (.cells #[.slice none 0 0] 60)).frozen? ⟨w.heap.size, 0, none⟩ = false by simp)
  have HS := Lib.hid hs
  clear hs hk hB2
  go_wp2
  refine bodyPost_ret (by simp [results, Try.f35, go_sem, k1]; rfl) rfl ?_
  exact ⟨_, _, _, rfl, HS.out, B2.out.setCell (p := ⟨w.heap.size, 0, none⟩) (Nat.le_refl _) _⟩

theorem nd_SubsW {S : Nat → Prop} (p : Value) (L : List Int) (E : List Ent) (n : Nat) (w : World) (h : PIs S w p L E n) :
    ∃ a1 n1 c1, SetIn w (.agg #[.slice a1 n1 c1]) L ∧ ∀ W, Below w.heap.size w W → Calls Try.prog 35 #[p] W fun e w' => e = .returned (.agg #[.slice a1 n1 c1]) ∧ Below W.heap.size W w' := by
  have hf0 := field_subs
  obtain ⟨a1, n1, c1, a2, n2, c2, hs, hk, _, ho1, ho2, hval⟩ := nd_value p L E n w h
  refine ⟨_, _, _, hs, fun W hW => ?_⟩
  have hB := new_below W
  have HV := Lib.hid (fun o => hval _ (below_step hW (hB o)))
  clear h hval hs hk ho1 ho2 hW
  go_enter Try.func35, Try.ntmps35
  go_wp2_with fail
  refine (HV.out _).mono ?_
  rintro e w' ⟨rfl, hB2⟩
  have B2 := Lib.hid (below_step (hB _) hB2)
  have k1 := (hB2.cell (p := ⟨W.heap.size, 0, none⟩) (by simp)).trans (show (W.alloc (.cells #[.slice none 0 0] 60)).cell? ⟨W.heap.size, 0, none⟩ = some (.slice none 0 0) by simp)
  have f1 := (hB2.frozen (p := ⟨W.heap.size, 0, none⟩) (by simp)).trans (show (W.alloc (.cells #[.slice none 0 0] 60)).frozen? ⟨W.heap.size, 0, none⟩ = false by simp)
  clear hB2
  go_wp2
  refine bodyPost_ret (by simp [results, Try.f35, go_sem, k1]; rfl) rfl ?_
  exact ⟨rfl, B2.out.setCell (p := ⟨W.heap.size, 0, none⟩) (Nat.le_refl _) _⟩

theorem nd_Size {S : Nat → Prop} (p : Value) (L : List Int) (E : List Ent) (n : Nat) (w : World) (h : PIs S w p L E n) (hbig : n ≤ 1000000000) :
    Calls Try.prog 63 #[p] w fun e w' => e = .returned (.int .i64 (n : Int)) ∧ w = w' := by
  rcases h with ⟨rfl, rfl, rfl, rfl⟩ | ⟨b, rfl, h1, a1, n1, c1, a2, n2, c2, hb, hs, hk, ho1, ho2, ho3⟩
  · go_enter Try.func63, Try.ntmps63
    go_wp2
    go_ret
    exact ⟨rfl, rfl⟩
  · have d2 := hb.at (o := 2) rfl
    have hn : Hid ((((n - 1 : Nat) : Int) + 1) = n) := (show _ = _ by omega)
    clear hb hs hk
    go_enter Try.func63, Try.ntmps63
    go_wp2
    go_ret
    exact ⟨by rw [← hn.out]; rfl, rfl⟩

/-- What Kid tells. -/
def kidV (o : Option Int) : Value := match o with | none => .pointer none | some x => ptrV x
theorem nd_Kid {S : Nat → Prop} (p : Value) (L : List Int) (E : List Ent) (n : Nat) (k : Key) (w : World) (h : PIs S w p L E n) (hbig : E.length ≤ 100000) :
    Calls Try.prog 39 #[p, keyV k] w fun e w' => e = .returned (kidV (getE k E)) ∧ Below w.heap.size w w' := by
  have hf1 := field_kids
  obtain ⟨a1, n1, c1, a2, n2, c2, hs, hk, _, ho1, ho2, hval⟩ := nd_value p L E n w h
  have HV := Lib.hid hval
  clear h hval
  go_enter Try.func39, Try.ntmps39
  go_wp2_with fail
  refine (HV.out w (Below.refl _ _)).mono ?_
  rintro e w' ⟨rfl, hB2⟩
  have B2 := Lib.hid hB2
  have HK := Lib.hid (hk.below hB2)
  clear hs hk hB2
  go_wp2_with fail
  refine (kids_Get _ E k _ HK.out hbig).mono ?_
  rintro e w3 ⟨rfl, hB3⟩
  have B3 := Lib.hid (below_step B2.out hB3)
  clear hB3
  cases hg0 : getE k E with
  | none =>
    have hg : gotP none = .tuple #[.pointer none, .bool false] := rfl
    rw [hg]
    go_wp2
    go_ret
    exact ⟨by rw [hg0]; rfl, B3.out⟩
  | some x =>
    have hg : gotP (some x) = .tuple #[ptrV x, .bool true] := rfl
    rw [hg]
    go_wp2
    go_ret
    exact ⟨by rw [hg0]; rfl, B3.out⟩

theorem nd_Kids {S : Nat → Prop} (p : Value) (L : List Int) (E : List Ent) (n : Nat) (w : World) (h : PIs S w p L E n) :
    ∃ s, KidsIn w (.agg #[s]) E ∧ (∀ b, p = .pointer (some ⟨b, 0, none⟩) → w.cell? ⟨b, 1, none⟩ = some s) ∧ ∀ W, Below w.heap.size w W →
      Calls Try.prog 33 #[p] W fun e w' => ∃ W1, Below W.heap.size W W1 ∧ e = .returned (.func (.func 71) #[] #[.pointer (some ⟨W1.heap.size, 0, none⟩)]) ∧
        w' = W1.alloc (.cells #[s] 81) := by
  obtain ⟨a1, n1, c1, a2, n2, c2, hs, hk, hc, _, _, hval⟩ := nd_value p L E n w h
  refine ⟨_, hk, hc, fun W hW => ?_⟩
  have HV := Lib.hid (hval W hW)
  have HK := Lib.hid (hk.below hW)
  clear h hval hs hk hW hc
  have hf1 := field_kids
  go_enter Try.func33, Try.ntmps33
  go_wp2_with fail
  refine HV.out.mono ?_
  rintro e w' ⟨rfl, hB2⟩
  have B2 := Lib.hid hB2
  obtain ⟨⟨s, hv, hs⟩, hu⟩ := HK.out.below hB2
  cases hv
  clear hB2
  go_wp2_with fail
  refine (kids_All _ E _ hs).mono ?_
  rintro e w3 ⟨rfl, rfl⟩
  go_wp2
  go_ret
  exact ⟨w', B2.out, rfl, rfl⟩

theorem nd_Bare {S : Nat → Prop} (p : Value) (L : List Int) (E : List Ent) (n : Nat) (w : World) (h : PIs S w p L E n) (bare : Bool) (hb : bare = true ↔ L = [] ∧ E = []) :
    Calls Try.prog 60 #[p] w fun e w' => e = .returned (.bool bare) ∧ Below w.heap.size w w' := by
  obtain ⟨a1, n1, c1, a2, n2, c2, hs, hk, _, ho1, ho2, hval⟩ := nd_value p L E n w h
  have HV := Lib.hid hval
  clear h hval
  go_enter Try.func60, Try.ntmps60
  go_wp2_with fail
  refine (HV.out w (Below.refl _ _)).mono ?_
  rintro e w' ⟨rfl, hB2⟩
  have B2 := Lib.hid hB2
  have HS := Lib.hid (hs.below hB2)
  have HK := Lib.hid (hk.below hB2)
  clear hs hk hB2
  go_wp2_with fail
  refine (set_Len _ L _ (HS.out.below (new_below _ _))).mono ?_
  rintro e w3 ⟨rfl, hB3⟩
  have hB3' := below_step (new_below w' _) hB3
  have K3 := Lib.hid (HK.out.below hB3')
  have k1 := (hB3.cell (p := ⟨w'.heap.size, 1, none⟩) (by simp)).trans (show (w'.alloc (.cells #[.slice a1 n1 c1, .slice a2 n2 c2, .int .i64 ((n - 1 : Nat) : Int)] 83)).cell? ⟨w'.heap.size, 1, none⟩ = some (.slice a2 n2 c2) by simp)
  have B3 := Lib.hid (below_step B2.out hB3')
  have R1 : Hid (w3.rangeAt w'.heap.size 1 [.slice a2 n2 c2]) := fun j v hv => by
    cases j with
    | zero => obtain rfl : Value.slice a2 n2 c2 = v := by simpa using hv
              exact k1
    | succ j => simp at hv
  clear hB3 hB3'
  by_cases hL : L.length = 0
  · by_cases hE : E.length = 0
    · have hbt : bare = true := hb.2 ⟨List.eq_nil_of_length_eq_zero hL, List.eq_nil_of_length_eq_zero hE⟩
      subst hbt
      clear hb
      rw [show (L.length : Int) = 0 by omega]
      go_wp2_with (with_reducible show wpList _ _ _ (⟨some 12, _, _, _, _, _⟩ :: _) _ _; refine wpList_load_g (by simp [Region.wanted, yielded]) 81 (.tmp 11) rfl w'.heap.size 1 rfl [.slice a2 n2 c2] _ R1.out Try.underlying81 rfl (by kernel_rfl) ?_)
      refine (kids_Len _ E _ K3.out).mono ?_
      rintro e w4 ⟨rfl, hB4⟩
      have B4 := Lib.hid (below_step B3.out hB4)
      rw [show (E.length : Int) = 0 by omega]
      go_wp2
      go_ret
      exact ⟨rfl, B4.out⟩
    · have hbt : bare = false := by
        cases hbb : bare
        · rfl
        · rw [(hb.1 hbb).2] at hE; simp at hE
      subst hbt
      clear hb
      rw [show (L.length : Int) = 0 by omega]
      go_wp2_with (with_reducible show wpList _ _ _ (⟨some 12, _, _, _, _, _⟩ :: _) _ _; refine wpList_load_g (by simp [Region.wanted, yielded]) 81 (.tmp 11) rfl w'.heap.size 1 rfl [.slice a2 n2 c2] _ R1.out Try.underlying81 rfl (by kernel_rfl) ?_)
      refine (kids_Len _ E _ K3.out).mono ?_
      rintro e w4 ⟨rfl, hB4⟩
      have B4 := Lib.hid (below_step B3.out hB4)
      have hE0 : ((E.length : Int) == 0) = false := by simp; exact fun e => hE (by rw [e]; rfl)
      go_wp2
      go_ret
      exact ⟨rfl, B4.out⟩
  · have hbt : bare = false := by
      cases hbb : bare
      · rfl
      · rw [(hb.1 hbb).1] at hL; simp at hL
    subst hbt
    clear hb
    go_wp2
    go_ret
    exact ⟨rfl, B3.out⟩

set_option maxRecDepth 100000 in
theorem nd_WithSub {S : Nat → Prop} (p : Value) (L : List Int) (E : List Ent) (n : Nat) (x : Int) (w : World) (hS : ∀ k, w.heap.size ≤ k → ¬ S k) (h : PIs S w p L E n) (hbig : L.length ≤ 1000000) :
    Calls Try.prog 40 #[p, .int .i64 x] w fun e w' => ∃ b, e = .returned (.pointer (some ⟨b, 0, none⟩)) ∧ NdIs S w' b (withZ x L) E (n - 1) ∧ Below w.heap.size w w' := by
  obtain ⟨a1, n1, c1, a2, n2, c2, hs, hk, _, ho1, ho2, hval⟩ := nd_value p L E n w h
  have HV := Lib.hid hval
  clear h hval
  go_enter Try.func40, Try.ntmps40
  go_wp2_with fail
  refine (HV.out w (Below.refl _ _)).mono ?_
  rintro e w' ⟨rfl, hB2⟩
  have B2 := Lib.hid hB2
  have HS := Lib.hid (hs.below hB2)
  have HK := Lib.hid (hk.below hB2)
  clear hs hk hB2
  go_wp2_with fail
  refine (set_With0 _ L x _ (HS.out.below (new_below _ _)) hbig).mono ?_
  rintro e w3 ⟨r, rfl, hr, hB3, ha⟩
  obtain ⟨a, m, c, rfl⟩ := hr.form
  have hwx := B2.out.size
  have hb := (Blk.new (W := w') (t := 83) (l := [.slice a1 n1 c1, .slice a2 n2 c2, .int .i64 ((n - 1 : Nat) : Int)])).below hB3 (by simp)
  have k0 := hb.at (o := 0) rfl
  have f0 := hb.frozen 0
  have hlt := hb.lt
  have HB := Lib.hid hb
  have HO := Lib.hid (ho1.apart ha hS (by simp; omega))
  have HO2 := Lib.hid ho2
  have HR : Hid (∀ u, SetIn (w3.setCell ⟨w'.heap.size, 0, none⟩ u) (.agg #[.slice a m c]) (withZ x L)) := fun u => HS.out.away hr ha (Nat.le_refl _) (by simp)
  have HK3 : Hid (∀ u, KidsIn (w3.setCell ⟨w'.heap.size, 0, none⟩ u) (.agg #[.slice a2 n2 c2]) E) := fun u => HK.out.below ((below_step (new_below w' _) hB3).setCell (p := ⟨w'.heap.size, 0, none⟩) (Nat.le_refl _) _)
  have B3 := Lib.hid (below_step B2.out (below_step (new_below w' _) hB3))
  clear hb hr hB3 ha ho1 ho2
  go_wp2
  go_ret
  exact ⟨_, rfl, ⟨_, _, _, _, _, _, by simpa using HB.out.set 0 (.slice a m c), HR.out _, HK3.out _, HO.out, HO2.out, hS _ hwx⟩, B3.out.setCell (p := ⟨w'.heap.size, 0, none⟩) hwx _⟩

end Go.Proofs.Ytabgedmocdjkcaa
