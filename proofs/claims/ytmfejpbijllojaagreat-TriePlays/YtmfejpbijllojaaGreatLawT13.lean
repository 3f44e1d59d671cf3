/- Layer 13's laws: the document's example. · A list of deeds among a law's arguments (layer 13). · Layer 13's laws: is there more than is looked at? · Layer 13's laws: tries by their roots and pairs, as the walks want them. -/
import Derived.Test.YtmfejpbijllojaaGreatTrieX13
import Derived.Test.YtmfejpbijllojaaGreatSubsX13
import Derived.Test.YtmfejpbijllojaaGreatIntsRef
import Derived.Test.YtmfejpbijllojaaGreatProg
import Derived.Test.YtmfejpbijllojaaGreatRecs
import Derived.Test.YtmfejpbijllojaaGreatBase
import Derived.Lib.Hide
import Derived.WalkKit
import Derived.LoopN
namespace Go.Proofs.YtmfejpbijllojaaGreat
open Go.RowKit Go.Shelf

theorem ofZ_up {L : List Int} (h : Up L) : ofZ L = L := up_ext (ofZ_facts L).1 h fun z => (ofZ_facts L).2 z
def F1 : Key := [97, 47, 43]
def F2 : Key := [97, 47, 35]
theorem nums_two (cur : World) (a b : Int) : NumsIn (cur.alloc (.cells #[.int .i64 a, .int .i64 b] 3)) (.slice (some ⟨cur.heap.size, 0, none⟩) 2 2) [a, b] := by
  refine ⟨rfl, .inr ⟨cur.heap.size, 0, 2, rfl, Nat.le_refl _, by simp, ?_⟩⟩
  have := cellsAt_block cur [.int .i64 a, .int .i64 b] 3
  simpa using this
theorem nums_one (cur : World) (a : Int) : NumsIn (cur.alloc (.cells #[.int .i64 a] 3)) (.slice (some ⟨cur.heap.size, 0, none⟩) 1 1) [a] := by
  refine ⟨rfl, .inr ⟨cur.heap.size, 0, 1, rfl, Nat.le_refl _, by simp, ?_⟩⟩
  have := cellsAt_block cur [.int .i64 a] 3
  simpa using this
abbrev NoS : Nat → Prop := fun _ => False
theorem first_add (W : World) : Calls Tryz.prog 9 #[.agg #[.pointer none, .int .i64 0], .string ⟨#[97, 47, 43]⟩, .int .i64 1] W fun e w' => ∃ o, e = .returned (.tuple #[.agg #[.pointer (pA o), .int .i64 1], .int .i64 0]) ∧ NodeIs NoS w' o ∧ TrOk o [(F1, 1)] ∧ Below W.heap.size W w' := by
  have h := tr_Add (S := NoS) (o := none) (P := []) ⟨#[97, 47, 43]⟩ 1 W (fun _ _ h => h) trivial trOk_nil (by simp)
  have e1 : addZ [] (⟨#[97, 47, 43]⟩ : ByteArray).data.toList 1 = [(F1, 1)] := by decide
  have e2 : addE [] (⟨#[97, 47, 43]⟩ : ByteArray).data.toList 1 = 0 := by decide
  rw [e1, e2] at h
  exact h.mono fun e w' ⟨o, h1, h2, h3, _, h5⟩ => ⟨o, h1, h2, h3, h5⟩
theorem second_add {o : Nd} (W : World) (ho : NodeIs NoS W o) (h : TrOk o [(F1, 1)]) : Calls Tryz.prog 9 #[.agg #[.pointer (pA o), .int .i64 1], .string ⟨#[97, 47, 35]⟩, .int .i64 2] W fun e w' => ∃ o, e = .returned (.tuple #[.agg #[.pointer (pA o), .int .i64 2], .int .i64 0]) ∧ NodeIs NoS w' o ∧ TrOk o [(F1, 1), (F2, 2)] ∧ Below W.heap.size W w' := by
  have h := tr_Add (S := NoS) ⟨#[97, 47, 35]⟩ 2 W (fun _ _ h => h) ho h (by simp)
  have e1 : addZ [(F1, 1)] (⟨#[97, 47, 35]⟩ : ByteArray).data.toList 2 = [(F1, 1), (F2, 2)] := by decide
  have e2 : addE [(F1, 1)] (⟨#[97, 47, 35]⟩ : ByteArray).data.toList 2 = 0 := by decide
  rw [e1, e2] at h
  exact h.mono fun e w' ⟨o, h1, h2, h3, _, h5⟩ => ⟨o, h1, h2, h3, h5⟩
theorem match_ab {o : Nd} (W : World) (ho : NodeIs NoS W o) (h : TrOk o [(F1, 1), (F2, 2)]) : Calls Tryz.prog 18 #[.agg #[.pointer (pA o), .int .i64 2], .string ⟨#[97, 47, 98]⟩] W fun e w' => ∃ r, e = .returned r ∧ SetIn w' r [1, 2] ∧ Below W.heap.size W w' := by
  have h := tr_Match (S := NoS) ⟨#[97, 47, 98]⟩ W ho h (by simp)
  have e1 : mzP [(F1, 1), (F2, 2)] (⟨#[97, 47, 98]⟩ : ByteArray).data.toList = [1, 2] := by decide
  rw [e1, ofZ_up (by simp)] at h
  exact h
theorem match_a {o : Nd} (W : World) (ho : NodeIs NoS W o) (h : TrOk o [(F1, 1), (F2, 2)]) : Calls Tryz.prog 18 #[.agg #[.pointer (pA o), .int .i64 2], .string ⟨#[97]⟩] W fun e w' => ∃ r, e = .returned r ∧ SetIn w' r [2] ∧ Below W.heap.size W w' := by
  have h := tr_Match (S := NoS) ⟨#[97]⟩ W ho h (by simp)
  have e1 : mzP [(F1, 1), (F2, 2)] (⟨#[97]⟩ : ByteArray).data.toList = [2] := by decide
  rw [e1, ofZ_up (by simp)] at h
  exact h
set_option maxRecDepth 100000 in
set_option maxHeartbeats 2000000 in
theorem awake13 (w : World) : Calls Tryz.prog 4 #[] w fun e w' => e = .returned (.bool true) ∧ Below w.heap.size w w' := by
  go_enter Tryz.func4, Tryz.ntmps4
  go_wp2_with fail
  refine (first_add _).mono ?_
  rintro e w1 ⟨o1, rfl, hn1, ht1, hB1⟩
  have A2 : Hid (∀ W, Below w1.heap.size w1 W → _) := Lib.hid fun W hW => second_add W (hn1.below hW) ht1
  have B1 := Lib.hid hB1
  clear hn1 ht1 hB1
  generalize pA o1 = q1 at *
  go_wp2_with fail
  have hN := new_below w1 (.cells #[.pointer q1, .int .i64 1] 28)
  refine (A2.out _ hN).mono ?_
  rintro e w2 ⟨o2, rfl, hn2, ht2, hB2⟩
  have M1 : Hid (∀ W, Below w2.heap.size w2 W → _) := Lib.hid fun W hW => match_ab W (hn2.below hW) ht2
  have M2 : Hid (∀ W, Below w2.heap.size w2 W → _) := Lib.hid fun W hW => match_a W (hn2.below hW) ht2
  have B2 := Lib.hid (below_step B1.out (below_step hN hB2))
  clear hn2 ht2 hB2 hN A2
  generalize pA o2 = q2 at *
  go_wp2_with fail
  obtain ⟨W3, hW3⟩ : ∃ W, W = w2.alloc (.cells #[.pointer q2, .int .i64 2] 28) := ⟨_, rfl⟩
  have b3 : Blk 28 W3 w2.heap.size [.pointer q2, .int .i64 2] := by rw [hW3]; exact Blk.new
  have HB3 : Hid (Below w2.heap.size w2 W3) := Lib.hid (by rw [hW3]; exact new_below _ _)
  rw [← hW3]
  clear hW3
  refine (M1.out _ HB3.out).mono ?_
  rintro e w4 ⟨r, rfl, hs4, hB4⟩
  have b4 := b3.below hB4 b3.lt
  have HB4 := Lib.hid (below_step HB3.out hB4)
  have HS4 := Lib.hid hs4
  clear hs4 hB4 b3 HB3 M1
  go_wp2_with fail
  refine (list13 r _ w4 HS4.out (by simp)).mono ?_
  rintro e w5 ⟨r5, rfl, hn5, hB5⟩
  have b5 := b4.below hB5 b4.lt
  have HB5 := Lib.hid (below_step HB4.out hB5)
  have HN5 := Lib.hid hn5
  clear hn5 hB5 b4 HB4 HS4
  go_wp2_with fail
  obtain ⟨W6, hW6⟩ : ∃ W, W = w5.alloc (.cells #[.int .i64 1, .int .i64 2] 3) := ⟨_, rfl⟩
  have hB6 : Below w5.heap.size w5 W6 := by rw [hW6]; exact new_below _ _
  have hn6 : NumsIn W6 (.slice (some ⟨w5.heap.size, 0, none⟩) 2 2) [1, 2] := by rw [hW6]; exact nums_two _ 1 2
  have b6 := b5.below hB6 b5.lt
  have HB6 := Lib.hid (below_step HB5.out hB6)
  rw [← hW6]
  clear hW6
  refine (ref_Ints _ _ _ _ W6 (HN5.out.below hB6) hn6 (by simp) (by simp)).mono ?_
  rintro e w7 ⟨rfl, hB7⟩
  have b7 := b6.below hB7 b6.lt
  have HB7 := Lib.hid (below_step HB6.out hB7)
  have k0 := b7.at (o := 0) rfl
  have k1 := b7.at (o := 1) rfl
  rw [show decide (([1, 2] : List Int) = [1, 2]) = true by decide]
  clear hB6 hn6 b5 b6 hB7 HB5 HB6 HN5
  go_wp2_with fail
  refine (M2.out _ HB7.out).mono ?_
  rintro e w8 ⟨r8, rfl, hs8, hB8⟩
  have HB8 := Lib.hid (below_step HB7.out hB8)
  have HS8 := Lib.hid hs8
  clear hs8 hB8 b7 k0 k1 M2 HB7
  go_wp2_with fail
  refine (list13 r8 _ w8 HS8.out (by simp)).mono ?_
  rintro e w9 ⟨r9, rfl, hn9, hB9⟩
  have HB9 := Lib.hid (below_step HB8.out hB9)
  have HN9 := Lib.hid hn9
  clear hn9 hB9 HB8 HS8
  go_wp2_with fail
  obtain ⟨W10, hW10⟩ : ∃ W, W = w9.alloc (.cells #[.int .i64 2] 3) := ⟨_, rfl⟩
  have hB10 : Below w9.heap.size w9 W10 := by rw [hW10]; exact new_below _ _
  have hn10 : NumsIn W10 (.slice (some ⟨w9.heap.size, 0, none⟩) 1 1) [2] := by rw [hW10]; exact nums_one _ 2
  rw [← hW10]
  clear hW10
  refine (ref_Ints _ _ _ _ W10 (HN9.out.below hB10) hn10 (by simp) (by simp)).mono ?_
  rintro e w11 ⟨rfl, hB11⟩
  have HB11 := Lib.hid (below_step (below_step HB9.out hB10) hB11)
  rw [show decide (([2] : List Int) = [2]) = true by decide]
  clear hB10 hn10 hB11 HB9 HN9
  go_wp2
  go_ret
  exact ⟨rfl, below_step B2.out HB11.out⟩
end Go.Proofs.YtmfejpbijllojaaGreat

namespace Go.Proofs.YtmfejpbijllojaaGreat
open Go.ChangeShapes Go.WideShapes Go.ChangeAt Go.RowKit Go.Deep

/-- A deed: is it a drop, the filter, the subscriber. -/
structure Td where
  dr : Bool
  f : ByteArray
  s : Int
deriving Inhabited
abbrev tdC (d : Td) : List Value := [.bool d.dr, .string d.f, .int .i64 d.s]
/-- A slice of deeds, no longer than any. -/
def DIn (W : World) (a : Option Addr) (L : List Td) : Prop := L.length ≤ maxLen ∧ RecsIn 3 tdC W a L
theorem DIn.below {W W' : World} {a : Option Addr} {L : List Td} (h : DIn W a L) (hb : Below W.heap.size W W') : DIn W' a L := ⟨h.1, h.2.below hb⟩
theorem len_max {H : Type} {enc : TypeId × Value → H} {W : World} {t e : TypeId} {a : Option Addr} {len cap : Nat} {d : DataW H} {ps : List MemPlace} (ht : Tryz.prog.underlying t = some (.slice e))
    (h : DataW.Trod enc Tryz.prog W 0 (fun _ => true) true t (.slice a len cap) d ps) : len ≤ maxLen := by
  obtain ⟨fuel, hf⟩ := h
  rcases open_slice ht hf with ⟨hcs, hx⟩ | ⟨a', len', cap', m, n, D, Pl, hcs, _, hl, hm, _⟩
  · simp [Value.cells] at hcs
    obtain ⟨_, rfl, _⟩ := hcs
    exact Nat.zero_le _
  · simp [Value.cells] at hcs
    obtain ⟨rfl, rfl, rfl⟩ := hcs
    omega
theorem open_deeds13 {H : Type} {enc : TypeId × Value → H} {W : World} {a : Option Addr} {len cap : Nat} {d : DataW H} {ps : List MemPlace}
    (h : DataW.Trod enc Tryz.prog W 0 (fun _ => true) true 22 (.slice a len cap) d ps) (hlt : ∀ x ∈ ps, x.block < W.heap.size) : ∃ L : List Td, L.length = len ∧ DIn W a L := by
  have hmx := len_max Tryz.underlying22 h
  obtain ⟨L, hl, hr, hx⟩ := open_recs Tryz.underlying22 Tryz.underlying35 (by kernel_rfl) (by kernel_rfl) (by decide) h hlt
  obtain ⟨M, hM, hR⟩ := RecsIn.by (f := tdC) hr fun x hm => by
    obtain ⟨hlen, hf⟩ := hx x hm
    obtain ⟨v0, y0, n0, e0, t0⟩ := hf 0 _ rfl
    obtain ⟨v1, y1, n1, e1, t1⟩ := hf 1 _ rfl
    obtain ⟨v2, y2, n2, e2, t2⟩ := hf 2 _ rfl
    obtain ⟨z0, c0, _⟩ := DataW.trod_bool Tryz.underlying4 t0
    obtain ⟨s1, c1, _⟩ := DataW.trod_string Tryz.underlying9 t1
    obtain ⟨z2, c2, _⟩ := DataW.trod_int Tryz.underlying3 t2
    simp only [List.cons.injEq, and_true] at c0 c1 c2
    subst c0 c1 c2
    exact ⟨⟨z0, s1, z2⟩, (list3 hlen e0 e1 e2).symm⟩
  exact ⟨M, hM.trans hl, by rw [hM.trans hl]; exact hmx, hR⟩
end Go.Proofs.YtmfejpbijllojaaGreat

namespace Go.Proofs.YtmfejpbijllojaaGreat
open Go.RowKit

def greatZ (L : List Td) : Bool := L.any (fun d => decide (100 < d.f.size)) || decide (100 < L.length)
theorem great_at {L : List Td} {k : Nat} (hk : k < L.length) (h : 100 < L[k].f.size) : greatZ L = true := by
  rw [greatZ, Bool.or_eq_true]
  exact .inl (List.any_eq_true.2 ⟨L[k], List.getElem_mem hk, by simpa using h⟩)
theorem great_none {L : List Td} (h : ∀ k (hk : k < L.length), ¬ 100 < L[k].f.size) : greatZ L = decide (100 < L.length) := by
  have : L.any (fun d => decide (100 < d.f.size)) = false := by
    rw [List.any_eq_false]
    intro x hx
    obtain ⟨k, hk, rfl⟩ := List.mem_iff_getElem.1 hx
    simpa using h k hk
  rw [greatZ, this, Bool.false_or]
theorem small_of {L : List Td} (h : greatZ L = false) : L.length ≤ 100 ∧ ∀ d ∈ L, d.f.size ≤ 100 := by
  rw [greatZ, Bool.or_eq_false_iff, List.any_eq_false] at h
  exact ⟨by simpa using h.2, fun d hd => by simpa using h.1 d hd⟩
set_option maxRecDepth 100000 in
set_option maxHeartbeats 2000000 in
theorem great13 (a : Option Addr) (cap : Nat) (D : List Td) (w : World) (ht : DIn w a D) :
    Calls Tryz.prog 5 #[.slice a D.length cap] w fun e w' => e = .returned (.bool (greatZ D)) ∧ w = w' := by
  have hmx : D.length ≤ 9223372036854775807 := ht.1
  have T := Lib.hid ht.2
  clear ht
  go_enter Tryz.func5, Tryz.ntmps5
  go_wp2_with fail
  go_loopw [3] (fun i wr => ∃ k : Nat, k ≤ D.length ∧ i = .int .i64 k ∧ Hid (∀ j (hj : j < D.length), j < k → ¬ 100 < D[j].f.size) ∧ wr = w) (fun i _ => D.length - (intOf i).toNat)
  case atStart => exact ⟨0, Nat.zero_le _, rfl, Lib.hid (fun j _ h => by omega), rfl⟩
  case round =>
    obtain ⟨k, hk, rfl, HN, rfl⟩ := hrel
    by_cases hlt : k < D.length
    · obtain ⟨b, off, rfl, hb, hx⟩ := T.out.at k hlt
      have x1 : wr.cell? ⟨b, off + k * 3 + 1, none⟩ = some (.string D[k].f) := hx 1 _ rfl
      have hlt2 : (k : Int) < (D.length : Int) := by omega
      by_cases hs : 100 < D[k].f.size
      · have HG := Lib.hid (great_at hlt hs)
        generalize D[k].f = f at *
        clear hx
        go_wp2
        go_ret
        exact ⟨by rw [HG.out]; rfl, rfl⟩
      · have HS := Lib.hid hs
        generalize hf : D[k].f = f at *
        clear hx
        go_wp2
        go_roundw
        case rel =>
          refine ⟨k + 1, by omega, by go_num, Lib.hid (fun j hj hjk => ?_), trivial⟩
          by_cases e : j = k
          · subst e; rw [hf]; exact HS.out
          · exact HN.out j hj (by omega)
        case measure => simp [intOf]; omega
    · have HG := Lib.hid (great_none fun j hj => HN.out j hj (by omega))
      have hge : decide ((D.length : Int) ≤ (k : Int)) = true := by simp; omega
      have hnl : ¬ (k : Int) < (D.length : Int) := by omega
      go_wp2
      go_ret
      exact ⟨by rw [HG.out]; first | rfl | (simp; done) | (simp; omega), rfl⟩
end Go.Proofs.YtmfejpbijllojaaGreat

namespace Go.Proofs.YtmfejpbijllojaaGreat
open Go.RowKit Go.Shelf

/-- A trie: its root's place, how many pairs, its nodes, its pairs. -/
structure NdAt (S : Nat → Prop) (W : World) (q : Option Addr) (n : Nat) (o : Nd) (P : List Pr) : Prop where
  q : q = pA o
  n : n = P.length
  nd : NodeIs S W o
  ok : TrOk o P
section
variable {S S' T : Nat → Prop} {W W' : World} {q r : Option Addr} {n m : Nat} {o o2 : Nd} {P Q : List Pr}
theorem ndAt_nil : NdAt S W none 0 none [] := ⟨rfl, rfl, trivial, trOk_nil⟩
theorem NdAt.below (h : NdAt S W q n o P) (hb : Below W.heap.size W W') : NdAt S W' q n o P := ⟨h.q, h.n, h.nd.below hb, h.ok⟩
theorem NdAt.turn (h : NdAt S W q n o P) (ho : Only T W W') (hT : ∀ k, T k → S k) (hS : ∀ k, k < W.heap.size → S' k → S k) : NdAt S' W' q n o P := ⟨h.q, h.n, h.nd.turn ho hT hS, h.ok⟩
theorem NdAt.only (h : NdAt S W q n o P) (ho : Only T W W') (hT : ∀ k, T k → S k) : NdAt S W' q n o P := h.turn ho hT fun _ _ e => e
theorem NdAt.add (h : NdAt S W q n o P) (hS : ∀ k, W.heap.size ≤ k → ¬ S k) (hP : P.length ≤ 110) (f : ByteArray) (s : Int) :
    Calls Tryz.prog 9 #[.agg #[.pointer q, .int .i64 (n : Int)], .string f, .int .i64 s] W fun e w' => ∃ (q' : Option Addr) (n' : Nat) (o' : Nd), e = .returned (.tuple #[.agg #[.pointer q', .int .i64 (n' : Int)], .int .i64 (addE P f.data.toList s)]) ∧ NdAt S w' q' n' o' (addZ P f.data.toList s) ∧ ndC o' o ≤ (lv f.data.toList).length + 1 ∧ Below W.heap.size W w' := by
  obtain ⟨rfl, rfl, h3, h4⟩ := h
  exact (tr_Add f s W hS h3 h4 hP).mono fun e w' ⟨o', h1, h2, h3, h4, h5⟩ => ⟨_, _, o', h1, ⟨rfl, rfl, h2, h3⟩, h4, h5⟩
theorem NdAt.drop (h : NdAt S W q n o P) (hS : ∀ k, W.heap.size ≤ k → ¬ S k) (hP : P.length ≤ 110) (f : ByteArray) (s : Int) :
    Calls Tryz.prog 7 #[.agg #[.pointer q, .int .i64 (n : Int)], .string f, .int .i64 s] W fun e w' => ∃ (q' : Option Addr) (n' : Nat) (o' : Nd), e = .returned (.tuple #[.agg #[.pointer q', .int .i64 (n' : Int)], .int .i64 (dropK P f.data.toList s)]) ∧ NdAt S w' q' n' o' (dropZ P f.data.toList s) ∧ ndC o' o ≤ (lv f.data.toList).length + 1 ∧ Below W.heap.size W w' := by
  obtain ⟨rfl, rfl, h3, h4⟩ := h
  exact (tr_Drop f s W hS h3 h4 hP).mono fun e w' ⟨o', h1, h2, h3, h4, h5⟩ => ⟨_, _, o', h1, ⟨rfl, rfl, h2, h3⟩, h4, h5⟩
theorem NdAt.len (h : NdAt S W q n o P) : Calls Tryz.prog 11 #[.agg #[.pointer q, .int .i64 (n : Int)]] W fun e w' => e = .returned (.int .i64 (P.length : Int)) ∧ Below W.heap.size W w' := by
  obtain ⟨rfl, rfl, _, _⟩ := h
  exact tr_Len o P.length W
theorem NdAt.size (h : NdAt S W q n o P) (hP : P.length ≤ 110) : Calls Tryz.prog 14 #[.agg #[.pointer q, .int .i64 (n : Int)]] W fun e w' => e = .returned (.int .i64 ((ndN o - 1 : Nat) : Int)) ∧ Below W.heap.size W w' := by
  obtain ⟨rfl, rfl, h3, h4⟩ := h
  exact tr_Size o P.length W h3 (by have := h4.n4 hP; omega)
theorem NdAt.hasP (h : NdAt S W q n o P) (hP : P.length ≤ 110) (f : ByteArray) (s : Int) (hf : f.size ≤ 1048576) : Calls Tryz.prog 12 #[.agg #[.pointer q, .int .i64 (n : Int)], .string f, .int .i64 s] W fun e w' => e = .returned (.bool (decide ((f.data.toList, s) ∈ P))) ∧ Below W.heap.size W w' := by
  obtain ⟨rfl, rfl, h3, h4⟩ := h
  have := tr_Has o P.length f s W h3 (by have := h4.n4 hP; omega) (h4.l1 hP) hf
  rw [show decide (s ∈ subZ o (lv f.data.toList)) = decide ((f.data.toList, s) ∈ P) by rw [decide_eq_decide]; exact h4.mem] at this
  exact this
theorem NdAt.mat (h : NdAt S W q n o P) (hP : P.length ≤ 110) (t : ByteArray) : Calls Tryz.prog 18 #[.agg #[.pointer q, .int .i64 (n : Int)], .string t] W fun e w' => ∃ r, e = .returned r ∧ SetIn w' r (ofZ (mzP P t.data.toList)) ∧ Below W.heap.size W w' := by
  obtain ⟨rfl, rfl, h3, h4⟩ := h
  exact tr_Match t W h3 h4 hP
/-- The numbers that match are few. -/
theorem mz_len (P : List Pr) (t : Key) : (ofZ (mzP P t)).length ≤ P.length := by
  refine Nat.le_trans (ofZ_length _) ?_
  rw [mzP, List.length_map]
  exact List.length_filter_le _ _
end
/-- A trie in a box of its own. -/
structure BxAt (S : Nat → Prop) (W : World) (B : Nat) (q : Option Addr) (n : Nat) (o : Nd) (P : List Pr) : Prop where
  box : Blk 28 W B [.pointer q, .int .i64 (n : Int)]
  at_ : NdAt S W q n o P
section
variable {S S' T : Nat → Prop} {W W' : World} {B : Nat} {q r : Option Addr} {n m : Nat} {o o2 : Nd} {P Q : List Pr}
theorem BxAt.below (h : BxAt S W B q n o P) (hb : Below W.heap.size W W') : BxAt S W' B q n o P := ⟨h.box.below hb h.box.lt, h.at_.below hb⟩
theorem BxAt.only (h : BxAt S W B q n o P) (ho : Only T W W') (hT : ∀ k, T k → S k) (hB : ¬ T B) : BxAt S W' B q n o P := ⟨h.box.only ho hB, h.at_.only ho hT⟩
theorem BxAt.put (h : BxAt S W B q n o P) (hb : Below W.heap.size W W') (k : NdAt S W' r m o2 Q) (hS : S B) : BxAt S ((W'.setCell ⟨B, 0, none⟩ (.pointer r)).setCell ⟨B, 1, none⟩ (.int .i64 (m : Int))) B r m o2 Q :=
  ⟨blk_put2 (h.box.below hb h.box.lt) _ _, k.only (only_put2 W' B _ _) fun j e => by rw [e]; exact hS⟩
theorem bxAt_new (h : NdAt S W q n o P) : BxAt S (W.alloc (.cells #[.pointer q, .int .i64 (n : Int)] 28)) W.heap.size q n o P := ⟨Blk.new, h.below (new_below _ _)⟩
end
theorem addZ_len (P : List Pr) (f : Key) (s : Int) : (addZ P f s).length ≤ P.length + 1 := by
  unfold addZ
  split
  · simp
  · omega
theorem dropZ_len (P : List Pr) (f : Key) (s : Int) : (dropZ P f s).length ≤ P.length + 1 := by
  unfold dropZ
  split
  · exact Nat.le_trans (List.length_filter_le _ _) (Nat.le_succ _)
  · omega
/-- Where the loop stands. -/
structure CSt (w1 wr : World) (T k : Nat) (q : Option Addr) (n : Nat) (o : Nd) (P : List Pr) : Prop where
  bx : BxAt (fun j => j = T) wr T q n o P
  low : Below w1.heap.size w1 wr
  lt : w1.heap.size ≤ T
  len : P.length ≤ k
theorem CSt.below {w1 wr W : World} {T k : Nat} {q : Option Addr} {n : Nat} {o : Nd} {P : List Pr} (h : CSt w1 wr T k q n o P) (hb : Below wr.heap.size wr W) : CSt w1 W T k q n o P := ⟨h.bx.below hb, below_step h.low hb, h.lt, h.len⟩
theorem CSt.fresh {w1 wr : World} {T k : Nat} {q : Option Addr} {n : Nat} {o : Nd} {P : List Pr} (h : CSt w1 wr T k q n o P) : ∀ j, wr.heap.size ≤ j → ¬ j = T := fun j hj e => by have := h.bx.box.lt; omega
theorem CSt.put {w1 wr : World} {T k n n' : Nat} {q q' : Option Addr} {o o' : Nd} {P P' : List Pr} (h : CSt w1 wr T k q n o P) (hn : NdAt (fun j => j = T) wr q' n' o' P') (hl : P'.length ≤ k + 1) : CSt w1 ((wr.setCell ⟨T, 0, none⟩ (.pointer q')).setCell ⟨T, 1, none⟩ (.int .i64 (n' : Int))) T (k + 1) q' n' o' P' :=
  ⟨h.bx.put (Below.refl _ _) hn rfl, (h.low.setCell (p := ⟨T, 0, none⟩) h.lt _).setCell (p := ⟨T, 1, none⟩) h.lt _, h.lt, hl⟩
/-- Both tries, in two boxes. -/
structure Two (w1 wr : World) (T B k : Nat) (q : Option Addr) (n : Nat) (o : Nd) (P : List Pr) (r : Option Addr) (m : Nat) (o2 : Nd) (Q : List Pr) : Prop where
  st : CSt w1 wr T k q n o P
  was : BxAt (fun j => j = T) wr B r m o2 Q
  ne : B ≠ T
section
variable {w1 wr W : World} {T B k n m n' : Nat} {q r q' : Option Addr} {o o2 o' : Nd} {P Q P' : List Pr}
theorem Two.below (h : Two w1 wr T B k q n o P r m o2 Q) (hb : Below wr.heap.size wr W) : Two w1 W T B k q n o P r m o2 Q := ⟨h.st.below hb, h.was.below hb, h.ne⟩
theorem Two.put (h : Two w1 wr T B k q n o P r m o2 Q) (hn : NdAt (fun j => j = T) wr q' n' o' P') (hl : P'.length ≤ k + 1) : Two w1 ((wr.setCell ⟨T, 0, none⟩ (.pointer q')).setCell ⟨T, 1, none⟩ (.int .i64 (n' : Int))) T B (k + 1) q' n' o' P' r m o2 Q :=
  ⟨h.st.put hn hl, h.was.only (only_put2 wr T _ _) (fun _ e => e) h.ne, h.ne⟩
end
/-- And a third one. -/
structure Three (w1 wr : World) (T B C k : Nat) (q : Option Addr) (n : Nat) (o : Nd) (P : List Pr) (r : Option Addr) (m : Nat) (o2 : Nd) (Q : List Pr) (r3 : Option Addr) (m3 : Nat) (o3 : Nd) (Q3 : List Pr) : Prop where
  two : Two w1 wr T B k q n o P r m o2 Q
  v : BxAt (fun j => j = T) wr C r3 m3 o3 Q3
theorem Three.below {w1 wr W : World} {T B C k n m m3 : Nat} {q r r3 : Option Addr} {o o2 o3 : Nd} {P Q Q3 : List Pr} (h : Three w1 wr T B C k q n o P r m o2 Q r3 m3 o3 Q3) (hb : Below wr.heap.size wr W) : Three w1 W T B C k q n o P r m o2 Q r3 m3 o3 Q3 := ⟨h.two.below hb, h.v.below hb⟩
theorem addE_bad {P : List Pr} {f : Key} {s : Int} (hf : filterZ f = false) : addE P f s = 3 := by rw [addE, if_neg (by simp [hf])]
theorem addE_twice {P : List Pr} {f : Key} {s : Int} (hf : filterZ f = true) (h : (f, s) ∈ P) : addE P f s = 5 := by rw [addE, if_pos hf, if_pos h]
theorem addE_new {P : List Pr} {f : Key} {s : Int} (hf : filterZ f = true) (h : (f, s) ∉ P) : addE P f s = 0 := by rw [addE, if_pos hf, if_neg h]
theorem addZ_bad {P : List Pr} {f : Key} {s : Int} (hf : filterZ f = false) : addZ P f s = P := if_neg fun e => by rw [hf] at e; exact absurd e.1 (by decide)
theorem addZ_twice {P : List Pr} {f : Key} {s : Int} (h : (f, s) ∈ P) : addZ P f s = P := if_neg fun e => e.2 h
theorem addZ_new {P : List Pr} {f : Key} {s : Int} (hf : filterZ f = true) (h : (f, s) ∉ P) : addZ P f s = P ++ [(f, s)] := if_pos ⟨hf, h⟩
theorem mz_same {P Q : List Pr} (h : ∀ x, x ∈ P ↔ x ∈ Q) (t : Key) : ofZ (mzP P t) = ofZ (mzP Q t) :=
  up_ext (ofZ_facts _).1 (ofZ_facts _).1 fun z => by
    rw [(ofZ_facts _).2, (ofZ_facts _).2, mem_mzP, mem_mzP]
    constructor
    · rintro ⟨f, h1, h2⟩; exact ⟨f, (h _).1 h1, h2⟩
    · rintro ⟨f, h1, h2⟩; exact ⟨f, (h _).2 h1, h2⟩
end Go.Proofs.YtmfejpbijllojaaGreat
