/- Layer 13 (package trie): Match. -/
import Derived.Test.YtmfejpbijllojaaTrieR13
namespace Go.Proofs.Ytmfejpbijllojaa
open Go.RowKit Go.Shelf

theorem numsIn_put {t : TypeId} {W : World} {B : Nat} {v x : Value} {L : List Int} (h : NumsIn W v L) (hb : Blk t W B [x]) (hx : ∀ z, x ≠ numV z) (u : Value) : NumsIn (W.setCell ⟨B, 0, none⟩ u) v L := by
  obtain ⟨h0, h1 | ⟨b, off, cap, hv, h2, h3, h4⟩⟩ := h
  · exact ⟨h0, .inl h1⟩
  · refine ⟨h0, .inr ⟨b, off, cap, hv, h2, by simpa [World.setCell] using h3, fun j y hj => ?_⟩⟩
    have hc := h4 j y hj
    have hne : b ≠ B := by
      rintro rfl
      obtain ⟨z, rfl⟩ : ∃ z, numV z = y := by
        rw [List.getElem?_map] at hj
        cases hL : L[j]? with
        | none => rw [hL] at hj; simp at hj
        | some z => rw [hL] at hj; exact ⟨z, by simpa using hj⟩
      have hh : W.heap[b]? = some (.cells #[x] t (0, 0)) := hb
      rw [World.cell?, hh] at hc
      cases hk : off + j with
      | zero => rw [hk] at hc; simp at hc; exact hx z hc
      | succ k => rw [hk] at hc; simp at hc
    rw [← hc]
    exact World.cell?_of_block (w := W) (Below.heap_setCell _ _ _ _ (fun e => hne e))
theorem setIn_put {t : TypeId} {W : World} {B : Nat} {v x : Value} {L : List Int} (h : SetIn W v L) (hb : Blk t W B [x]) (hx : ∀ z, x ≠ numV z) (u : Value) : SetIn (W.setCell ⟨B, 0, none⟩ u) v L := by
  obtain ⟨⟨s, hv, hs⟩, hu⟩ := h
  exact ⟨⟨s, hv, numsIn_put hs hb hx u⟩, hu⟩
theorem tr_isTopic (t : ByteArray) (w : World) : Calls Try.prog 33 #[.string t] w fun e w' => e = .returned (.bool (topicZ t.data.toList)) ∧ w = w' := by
  go_enter Try.func33, Try.ntmps33
  go_wp2_with fail
  refine (topic_Topic _ _).mono ?_
  rintro e w' ⟨rfl, rfl⟩
  go_wp2
  go_ret
  exact ⟨rfl, rfl⟩
theorem twoM (w : World) (q : Option Addr) (n : Int) : ∃ W, (w.alloc (.cells #[.pointer q, .int .i64 n] 27)).alloc (.cells #[.slice none 0 0] 43) = W ∧ Below w.heap.size w W ∧ Blk 27 W w.heap.size [.pointer q, .int .i64 n] ∧ Blk 43 W (w.heap.size + 1) [.slice none 0 0] := by
  refine ⟨_, rfl, below_step (new_below _ _) (new_below _ _), Blk.alloc Blk.new _, ?_⟩
  have := Blk.new (W := w.alloc (.cells #[.pointer q, .int .i64 n] 27)) (t := 43) (l := [.slice none 0 0])
  rw [World.size_alloc] at this; exact this

set_option maxRecDepth 100000 in
set_option maxHeartbeats 2000000 in
theorem tr_Match {S : Nat → Prop} {o : Nd} {P : List Pr} (t : ByteArray) (w : World) (ho : NodeIs S w o) (h : TrOk o P) (hP : P.length ≤ 110) :
    Calls Try.prog 18 #[trV o P.length, .string t] w fun e w' => ∃ r, e = .returned r ∧ SetIn w' r (ofZ (mzP P t.data.toList)) ∧ Below w.heap.size w w' := by
  have HT := Lib.hid (tr_isTopic t)
  cases ht : topicZ t.data.toList with
  | false =>
    rw [TrOk.match_none ht, ofZ_nil]
    rw [ht] at HT
    unfold trV
    clear ho h ht
    generalize pA o = q at *
    generalize P.length = n at *
    go_enter Try.func18, Try.ntmps18
    go_wp2_with fail
    obtain ⟨W2, hW2, B2, b0, b1⟩ := twoM w q n
    rw [hW2]
    refine (HT.out _).mono ?_
    rintro e w' ⟨rfl, rfl⟩
    have HB := Lib.hid B2
    have f1 := b1.frozen 0
    have m0 := b1.at (o := 0) rfl
    have hb1 := Lib.hid b1
    clear hW2 B2 b0 b1 HT
    go_wp2
    have r0 := ((hb1.out).set 0 (.slice none 0 0)).at (o := 0) rfl
    refine bodyPost_ret (by simp [results, Try.f18, go_sem, r0]; rfl) rfl ?_
    exact ⟨_, rfl, setIn_nil _, HB.out.setCell (p := ⟨w.heap.size + 1, 0, none⟩) (Nat.le_succ _) _⟩
  | true =>
    have HR : Hid (∀ W, Below w.heap.size w W → Calls Try.prog 35 #[.agg #[.pointer (pA o), .int .i64 (P.length : Int)], .string t] W fun e w' => ∃ v, e = .returned v ∧ ArgIn w' v (reachZ t.data.toList o) ∧ Below W.heap.size W w') := Lib.hid fun W hW =>
      tr_reached t W (ho.below hW) h hP ht
    have hlen := h.reach_len ht hP
    rw [← h.ofZ ht]
    rw [ht] at HT
    unfold trV
    clear ho h ht
    generalize reachZ t.data.toList o = L at *
    generalize pA o = q at *
    generalize P.length = n at *
    go_enter Try.func18, Try.ntmps18
    go_wp2_with fail
    obtain ⟨W2, hW2, B2, b0, b1⟩ := twoM w q n
    rw [hW2]
    refine (HT.out _).mono ?_
    rintro e w' ⟨rfl, rfl⟩
    have HB := Lib.hid B2
    have k0 := b0.at (o := 0) rfl
    have k1 := b0.at (o := 1) rfl
    clear hW2 B2 HT
    go_wp2_with fail
    refine (HR.out _ HB.out).mono ?_
    rintro e w3 ⟨v, rfl, harg, hB3⟩
    have c1 := b1.below hB3 b1.lt
    have HB3 := Lib.hid (below_step HB.out hB3)
    have HA := Lib.hid harg
    have hform : ∃ a n c, v = .slice a n c := by
      obtain ⟨a, c, rfl, _⟩ := harg
      exact ⟨_, _, _, rfl⟩
    obtain ⟨va, vn, vc, rfl⟩ := hform
    clear harg hB3 b0 b1 k0 k1 HR
    go_wp2_with fail
    refine (set_Of _ L _ HA.out hlen).mono ?_
    rintro e w4 ⟨r, rfl, hr, hB4⟩
    obtain ⟨a, n', c, rfl⟩ := hr.form
    have d1 := c1.below hB4 c1.lt
    have HB4 := Lib.hid (below_step HB3.out hB4)
    have HS := Lib.hid hr
    have f1 := d1.frozen 0
    have m0 := d1.at (o := 0) rfl
    have hd1 := Lib.hid d1
    clear hr hB4 c1 d1 HA
    go_wp2
    have r0 := ((hd1.out).set 0 (.slice a n' c)).at (o := 0) rfl
    refine bodyPost_ret (by simp [results, Try.f18, go_sem, r0]; rfl) rfl ?_
    exact ⟨_, rfl, setIn_put HS.out hd1.out (fun z e => by cases e) _, HB4.out.setCell (p := ⟨w.heap.size + 1, 0, none⟩) (Nat.le_succ _) _⟩
end Go.Proofs.Ytmfejpbijllojaa
