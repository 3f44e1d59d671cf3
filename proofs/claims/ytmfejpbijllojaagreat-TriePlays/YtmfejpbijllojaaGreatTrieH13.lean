/- Layer 13 (package trie): Has, Len, Size, Copied. -/
import Derived.Test.YtmfejpbijllojaaGreatTrieM13
import Derived.Test.YtmfejpbijllojaaGreatTrieU13
namespace Go.Proofs.YtmfejpbijllojaaGreat
open Go.RowKit Go.Shelf

attribute [local go_sem] Oper.semAt_some
/-- A node's place. -/
abbrev pA (o : Nd) : Option Addr := (ndB o).map fun b => ⟨b, 0, none⟩
/-- A trie: its root and how many pairs. -/
abbrev trV (o : Nd) (n : Nat) : Value := .agg #[.pointer (pA o), .int .i64 (n : Int)]
theorem kid_pa {S : Nat → Prop} {w : World} {o : Nd} (h : NodeIs S w o) (hN : ndN o ≤ 4000) (k : Key) : Calls Tryz.prog 28 #[.pointer (pA o), keyV k] w fun e w' => e = .returned (.pointer (pA ((ndF o).get k))) ∧ Below w.heap.size w w' := by
  rw [← ndP_ptr, ← ndP_ptr, ← kidV_get]
  exact nd_Kid _ _ _ _ k _ h.pis (by have h1 := fo_sz (ndF o); have h2 := ndN_F o; omega)
theorem NodeIs.at {S : Nat → Prop} {w : World} : ∀ (p : List Key) {o : Nd}, NodeIs S w o → NodeIs S w (atZ p o)
  | [], _, h => h
  | k :: p, _, h => NodeIs.at p (h.kid k)
theorem at_le : ∀ (p : List Key) (o : Nd), ndN (atZ p o) ≤ ndN o
  | [], _ => Nat.le_refl _
  | k :: p, o => Nat.le_trans (at_le p _) (kid_le k o)
theorem at_snoc (p : List Key) (k : Key) (o : Nd) : atZ (p ++ [k]) o = (ndF (atZ p o)).get k := by rw [at_app]; rfl

set_option maxRecDepth 100000 in
set_option maxHeartbeats 2000000 in
theorem tr_Has {S : Nat → Prop} (o : Nd) (n : Nat) (f : ByteArray) (s : Int) (w : World) (ho : NodeIs S w o) (hN : ndN o ≤ 4000) (hL : ∀ p, (subZ o p).length ≤ 1000) (hf : f.size ≤ 1048576) :
    Calls Tryz.prog 12 #[trV o n, .string f, .int .i64 s] w fun e w' => e = .returned (.bool (decide (s ∈ subZ o (lv f.data.toList)))) ∧ Below w.heap.size w w' := by
  have HO := Lib.hid ho
  have HL := Lib.hid hL
  obtain ⟨q, hq⟩ : ∃ q, pA o = q := ⟨_, rfl⟩
  have HQ := Lib.hid hq
  rw [show trV o n = .agg #[.pointer q, .int .i64 (n : Int)] by rw [← hq]]
  clear ho hL hq
  refine (callsIn_wide (n := 6)).1 ?_
  refine callsIn_of_wp_marks Tryz.func12 rfl trivial ?_ rfl
  simp only [Tryz.ntmps12, List.size_toArray, List.length_cons, List.length_nil, Nat.reduceAdd, Nat.reduceSub, Array.replicate_succ, Array.replicate_zero, List.push_toArray, List.append_toArray, List.nil_append, List.cons_append]
  gi_wp2_with fail
  obtain ⟨W2, hW2⟩ : ∃ W, W = (w.alloc (.cells #[.pointer q, .int .i64 (n : Int)] 28)).alloc (.cells #[.pointer q] 26) := ⟨_, rfl⟩
  have b2 : Boxed W2 (w.heap.size + 1) 26 (.pointer q) := by
    rw [hW2]
    have := Boxed.new (w.alloc (.cells #[.pointer q, .int .i64 (n : Int)] 28)) 26 (.pointer q)
    rw [World.size_alloc] at this; exact this
  have B2 : Below w.heap.size w W2 := by rw [hW2]; exact below_step (new_below _ _) (new_below _ _)
  have z2 : W2.heap.size = w.heap.size + 2 := by rw [hW2]; simp
  rw [← hW2]
  clear hW2
  refine ⟨trivial, (callsIn_wide.2 (topic_Each f W2)).mono ?_⟩
  rintro e w' ⟨rfl, rfl⟩
  gi_wp2_with fail
  have bN := Boxed.new W2 9 (.string f)
  have b3 := b2.alloc (.cells #[.string f] 9)
  have B3 : Below w.heap.size w (W2.alloc (.cells #[.string f] 9)) := below_step B2 (new_below _ _)
  rw [z2] at bN
  refine wpIn_rangeFunc_ownG rfl (by omega) (gf := 50) (lb := #[.pointer (some ⟨w.heap.size + 2, 0, none⟩)]) rfl trivial (enters_of Tryz.func50 (by kernel_rfl) rfl)
    (topic_Each_stops (6 - 1) (by omega) (w.heap.size + 2) f hf _ bN.lt bN.cell) walksK_t walksK_b (Below.refl _ _) (fun _ => rfl)
    (fun (pre : List (Nat × List UInt8)) W => (∃ v, Boxed W (w.heap.size + 1) 26 v ∧ v = .pointer (pA (atZ (pre.map (·.2)) o))) ∧ Below w.heap.size w W)
    (fun _ _ _ => False)
    (OwnFrom.and (Own.from (boxedEx_own (w.heap.size + 1) 26 (fun (pre : List (Nat × List UInt8)) v => v = .pointer (pA (atZ (pre.map (·.2)) o)))) _) (ownFrom_below (Nat.le_refl _) B3.size))
    (fun _ _ _ _ _ hs _ _ => hs)
    ⟨⟨_, b3, by rw [← HQ.out]; rfl⟩, B3⟩
    (fun x => { tmps := #[.agg #[.pointer q, .int .i64 (n : Int)], .string f, .int .i64 s, .pointer (some ⟨w.heap.size, 0, none⟩), undef, undef, .bool false, .pointer (some ⟨w.heap.size + 1, 0, none⟩), undef, .string ⟨x.2.toArray⟩, .pointer (some ⟨w.heap.size, 0, none⟩), .pointer q, .string f, .func (.func 50) #[] #[.pointer (some ⟨w.heap.size + 2, 0, none⟩)], .int .i64 (x.1 : Int), .string ⟨x.2.toArray⟩, undef, undef, undef, undef, undef, undef, undef], defers := [] }) ?assign ?body ?done ?stop
  case assign =>
    intro l x W K hK
    gi_wp2
    exact hK
  case stop =>
    rintro D c pre W _ _ h _
    exact h.elim
  case body =>
    rintro l pre ⟨i, k⟩ W ⟨⟨v, hb, rfl⟩, hB⟩ hlt
    have hc := hb.cell
    have HK := Lib.hid (kid_pa ((HO.out.below hB).at (pre.map (·.2))) (Nat.le_trans (at_le _ _) hN) k)
    have HB := Lib.hid hB
    clear hB
    generalize hqq : pA (atZ (List.map (fun x => x.2) pre) o) = qq at *
    gi_wp2_with fail
    refine ⟨trivial, (CallsIn.inRound l (callsIn_wide.2 HK.out)).mono ?_⟩
    rintro e w' ⟨rfl, hB2⟩
    have hb2 := boxed_below hb hB2 hb.lt
    have hc2 := hb2.cell
    have hf2 := hb2.frozen
    have HB2 := Lib.hid hB2
    clear hB2
    gi_wp2
    refine ⟨((keeps_below13 HB2.out).trans (KeepsOthers.setCell _ _ _)).from _, keeps_walks ((keeps_below13 HB2.out).trans (KeepsOthers.setCell _ _ _)), ⟨_, hb2.set _, ?_⟩, (below_step HB.out HB2.out).setCell (p := ⟨w.heap.size + 1, 0, none⟩) (Nat.le_succ _) _⟩
    rw [List.map_append, List.map_cons, List.map_nil, at_snoc]
  case done =>
    rintro D ys W hD rfl ⟨⟨v, hb, rfl⟩, hB⟩ hK
    rw [enum_map] at hb
    have hDw : w.heap.size ≤ D := Nat.le_trans B3.size hD
    have hc := hb.cell
    have HB := Lib.hid hB
    have HN := Lib.hid (((HO.out.below hB).at (lv f.data.toList)).pis)
    rw [ndP_ptr] at HN
    clear hB
    gi_wp2_with fail
    refine ⟨trivial, (callsIn_wide.2 (nd_Subs _ _ _ _ W HN.out)).mono ?_⟩
    rintro e w3 ⟨a1, n1, c1, rfl, hs, hB3⟩
    have HS := Lib.hid hs
    have HB3 := Lib.hid hB3
    have hK3 : w3.heap[D]? = some (.deferred (some [])) := (hB3.block D (Array.getElem?_eq_some_iff.1 hK).1).trans hK
    clear hs hB3
    gi_wp2_with fail
    refine ⟨trivial, (callsIn_wide.2 (set_Has _ _ s w3 (HS.out.below HB3.out) (by have := HL.out (lv f.data.toList); rw [subZ] at this; omega))).mono ?_⟩
    rintro e w4 ⟨rfl, hB4⟩
    have HB4 := Lib.hid hB4
    have hK4 : w4.heap[D]? = some (.deferred (some [])) := (hB4.block D (Array.getElem?_eq_some_iff.1 hK3).1).trans hK3
    clear hB4
    gi_wp2
    refine ⟨by simp, .inl ⟨_, _, rfl, run_takeDeferred hK4, ?_⟩⟩
    exact ⟨_, results_tmp rfl _ _ _, rfl, (below_step (below_step HB.out HB3.out) HB4.out).trans (belowK_b (w := w) (Nat.le_refl _) _ D _ _ hDw hK4 rfl rfl)⟩

set_option maxRecDepth 100000 in
theorem tr_Len (o : Nd) (n : Nat) (w : World) : Calls Tryz.prog 11 #[trV o n] w fun e w' => e = .returned (.int .i64 (n : Int)) ∧ Below w.heap.size w w' := by
  unfold trV
  generalize pA o = q
  go_enter Tryz.func11, Tryz.ntmps11
  go_wp2
  go_ret
  exact ⟨rfl, new_below _ _⟩
set_option maxRecDepth 100000 in
theorem tr_Size {S : Nat → Prop} (o : Nd) (n : Nat) (w : World) (ho : NodeIs S w o) (hN : ndN o ≤ 4000) : Calls Tryz.prog 14 #[trV o n] w fun e w' => e = .returned (.int .i64 ((ndN o - 1 : Nat) : Int)) ∧ Below w.heap.size w w' := by
  have HN := Lib.hid ho
  clear ho
  have hi : IntKind.i64.wrap ((ndN o : Int) - 1) = (ndN o : Int) - 1 := IntWalk.i64_in _ (by omega)
  have hm : ((ndN o - 1 : Nat) : Int) = max 0 ((ndN o : Int) - 1) := by omega
  have HM := Lib.hid hm
  have HP : Hid (∀ W, Below w.heap.size w W → Calls Tryz.prog 31 #[.pointer (pA o)] W fun e w' => e = .returned (.int .i64 (ndN o : Int)) ∧ W = w') := Lib.hid fun W hW => by
    rw [← ndP_ptr]; exact nd_Size _ _ _ _ W (HN.out.below hW).pis (by omega)
  clear hm
  unfold trV
  generalize pA o = q at *
  generalize ndN o = z at *
  go_enter Tryz.func14, Tryz.ntmps14
  go_wp2_with fail
  refine (HP.out _ (new_below _ _)).mono ?_
  rintro e w' ⟨rfl, rfl⟩
  go_wp2
  go_ret
  exact ⟨by rw [HM.out]; rfl, new_below _ _⟩
end Go.Proofs.YtmfejpbijllojaaGreat
