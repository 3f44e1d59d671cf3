/- Layer 13: a node's subscribers as its block has them (so that they lie where the node lies), in worlds where other blocks have turned. -/
import Derived.Test.YtmfejpbijllojaaTrieI13
import Derived.Test.YtmfejpbijllojaaSeqA13
namespace Go.Proofs.Ytmfejpbijllojaa
open Go.RowKit Go.Shelf

theorem val_nil13 (W : World) : Calls Try.prog 42 #[.pointer none] W fun e w' => e = .returned (.agg #[.slice none 0 0, .slice none 0 0, .int .i64 0]) ∧ Below W.heap.size W w' := by
  go_enter Try.func42, Try.ntmps42
  go_wp2
  refine bodyPost_ret (by simp [results, Try.f42, go_sem]; rfl) rfl ?_
  exact ⟨rfl, new_below _ _⟩
set_option maxRecDepth 100000 in
theorem val_at13 (b : Nat) (a1 a2 : Option Addr) (n1 c1 n2 c2 : Nat) (z : Int) (W : World) (hb : Blk 72 W b [.slice a1 n1 c1, .slice a2 n2 c2, .int .i64 z]) :
    Calls Try.prog 42 #[.pointer (some ⟨b, 0, none⟩)] W fun e w' => e = .returned (.agg #[.slice a1 n1 c1, .slice a2 n2 c2, .int .i64 z]) ∧ Below W.heap.size W w' := by
  have d0 : ∀ o, (W.alloc o).cell? ⟨b, 0, none⟩ = some (.slice a1 n1 c1) := fun o => (hb.alloc o).at (o := 0) rfl
  have d1 : ∀ o, (W.alloc o).cell? ⟨b, 1, none⟩ = some (.slice a2 n2 c2) := fun o => (hb.alloc o).at (o := 1) rfl
  have d2 : ∀ o, (W.alloc o).cell? ⟨b, 2, none⟩ = some (.int .i64 z) := fun o => (hb.alloc o).at (o := 2) rfl
  clear hb
  go_enter Try.func42, Try.ntmps42
  go_wp2
  refine bodyPost_ret (by simp [results, Try.f42, go_sem]; rfl) rfl ?_
  exact ⟨rfl, new_below _ _⟩
theorem nd_SubsV (p : Value) (a1 a2 : Option Addr) (n1 c1 n2 c2 : Nat) (z : Int) (W : World)
    (hval : ∀ W', Below W.heap.size W W' → Calls Try.prog 42 #[p] W' fun e w' => e = .returned (.agg #[.slice a1 n1 c1, .slice a2 n2 c2, .int .i64 z]) ∧ Below W'.heap.size W' w') :
    Calls Try.prog 29 #[p] W fun e w' => e = .returned (.agg #[.slice a1 n1 c1]) ∧ Below W.heap.size W w' := by
  have hf0 := field_subs
  have hB := new_below W
  have HV := Lib.hid (fun o => hval _ (hB o))
  clear hval
  go_enter Try.func29, Try.ntmps29
  go_wp2_with fail
  refine (HV.out _).mono ?_
  rintro e w' ⟨rfl, hB2⟩
  have B2 := Lib.hid (below_step (hB _) hB2)
  have k1 := (hB2.cell (p := ⟨W.heap.size, 0, none⟩) (by simp)).trans (show (W.alloc (.cells #[.slice none 0 0] 43)).cell? ⟨W.heap.size, 0, none⟩ = some (.slice none 0 0) by simp)
  have f1 := (hB2.frozen (p := ⟨W.heap.size, 0, none⟩) (by simp)).trans (show (W.alloc (.cells #[.slice none 0 0] 43)).frozen? ⟨W.heap.size, 0, none⟩ = false by simp)
  clear hB2
  go_wp2
  refine bodyPost_ret (by simp [results, Try.f29, go_sem, k1]; rfl) rfl ?_
  exact ⟨rfl, B2.out.setCell (p := ⟨W.heap.size, 0, none⟩) (Nat.le_refl _) _⟩
theorem SetIn.cases {W : World} {a : Option Addr} {n c : Nat} {L : List Int} (h : SetIn W (.agg #[.slice a n c]) L) : NumsIn W (.slice a n c) L := by
  obtain ⟨⟨s, hv, hs⟩, _⟩ := h
  cases hv; exact hs
theorem lies_only {w0 W : World} {v : Value} {L : List Int} {S : Nat → Prop} (h : NumsIn w0 v L) (ho : Only S w0 W) (hoff : Off S v) : LiesIn W w0.heap.size v L := by
  rcases h.lies with h1 | ⟨b, off, cap, rfl, h1, h2, h3⟩
  · exact .inl h1
  · refine .inr ⟨b, off, cap, rfl, h1, h2, fun j v hj => ?_⟩
    rw [← h3 j v hj]
    exact World.cell?_of_block (w := w0) (ho.block b h2 (hoff _ _ _ _ rfl))
theorem nd_SubsX {S : Nat → Prop} {w0 : World} {o : Nd} (h : NodeIs S w0 o) : ∃ a n c, ∀ W, Only S w0 W → LiesIn W w0.heap.size (.slice a n c) (ndL o) ∧
    Calls Try.prog 29 #[ndP o] W fun e w' => e = .returned (.agg #[.slice a n c]) ∧ Below W.heap.size W w' := by
  cases o with
  | none => exact ⟨none, 0, 0, fun W _ => ⟨.inl ⟨rfl, rfl⟩, nd_SubsV _ none none 0 0 0 0 0 W fun W' _ => val_nil13 W'⟩⟩
  | some x =>
    obtain ⟨⟨a1, n1, c1, a2, n2, c2, hb, hs, _, ho1, _, hnb⟩, _⟩ := h
    exact ⟨a1, n1, c1, fun W hO => ⟨lies_only hs.cases hO ho1, nd_SubsV _ a1 a2 n1 c1 n2 c2 _ W fun W' hW' => val_at13 x.1 a1 a2 n1 c1 n2 c2 _ W' ((hb.only hO hnb).below hW' ((hb.only hO hnb).lt))⟩⟩
theorem set_AllN (s : Value) (L : List Int) (w : World) (h : NumsIn w s L) :
    Calls Try.prog 32 #[.agg #[s]] w fun e w' => ∃ N, e = .returned (.func (.func 50) #[] #[.pointer (some ⟨N, 0, none⟩)]) ∧ N < w'.heap.size ∧ w'.cell? ⟨N, 0, none⟩ = some s ∧ Below w.heap.size w w' := by
  refine (set_All s L w h).mono ?_
  rintro e w' ⟨rfl, rfl⟩
  exact ⟨_, rfl, by simp, (Boxed.new w 43 s).cell, new_below _ _⟩
theorem seq_appN (base Bn : Nat) (v s : Value) (A L : List Int) (w : World) (hrow : w.ownsRow base 3 1 v A.length (A.map numV)) (hb : base ≤ w.heap.size) (hBn : Bn < w.heap.size) (hc : w.cell? ⟨Bn, 0, none⟩ = some s) (hs : LiesIn w base s L) (hbig : A.length + L.length ≤ 1000000) :
    Calls Try.prog 56 #[v, .func (.func 50) #[] #[.pointer (some ⟨Bn, 0, none⟩)]] w fun e w' => ∃ a2 n2 c2, e = .returned (.slice a2 n2 c2) ∧ w'.ownsRow base 3 1 (.slice a2 n2 c2) (A ++ L).length ((A ++ L).map numV) ∧ Below base w w' := by
  refine (seq_app base Bn v s A L w hrow hb hBn hc hs hbig).mono ?_
  rintro e w' ⟨v', rfl, h1, h2⟩
  obtain ⟨a2, c2, rfl⟩ := own_form h1
  exact ⟨a2, _, c2, rfl, h1, h2⟩
end Go.Proofs.Ytmfejpbijllojaa
