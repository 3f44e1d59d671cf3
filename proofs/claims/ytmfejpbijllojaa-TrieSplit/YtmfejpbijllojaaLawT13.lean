/- Layer 13's laws: tries by their roots and pairs, as the walks want them. -/
import Derived.Test.YtmfejpbijllojaaAwake13
import Derived.Test.YtmfejpbijllojaaGreat13
namespace Go.Proofs.Ytmfejpbijllojaa
open Go.RowKit Go.Shelf

/-- A trie: its root's place, how many pairs, its nodes, its pairs. -/
structure NdAt (S : Nat → Prop) (W : World) (q : Option Addr) (n : Nat) (o : Nd) (P : List Pr) : Prop where
  q : q = pA o
  n : n = P.length
  nd : NodeIs S W o
  ok : TrOk o P
section
variable {S S' T : Nat → Prop} {W W' : World} {q r : Option Addr} {n m : Nat} {o o2 : Nd} {P Q : List Pr}
theorem ndAt_nil : NdAt S W none 0 none [] := ⟨rfl, rfl, trivial, trOk_nil⟩
theorem NdAt.below (h : NdAt S W q n o P) (hb : Below W.heap.size W W') : NdAt S W' q n o P := ⟨h.q, h.n, h.nd.below hb, h.ok⟩
theorem NdAt.turn (h : NdAt S W q n o P) (ho : Only T W W') (hT : ∀ k, T k → S k) (hS : ∀ k, k < W.heap.size → S' k → S k) : NdAt S' W' q n o P := ⟨h.q, h.n, h.nd.turn ho hT hS, h.ok⟩
theorem NdAt.only (h : NdAt S W q n o P) (ho : Only T W W') (hT : ∀ k, T k → S k) : NdAt S W' q n o P := h.turn ho hT fun _ _ e => e
theorem NdAt.add (h : NdAt S W q n o P) (hS : ∀ k, W.heap.size ≤ k → ¬ S k) (hP : P.length ≤ 110) (f : ByteArray) (s : Int) :
    Calls Try.prog 9 #[.agg #[.pointer q, .int .i64 (n : Int)], .string f, .int .i64 s] W fun e w' => ∃ (q' : Option Addr) (n' : Nat) (o' : Nd), e = .returned (.tuple #[.agg #[.pointer q', .int .i64 (n' : Int)], .int .i64 (addE P f.data.toList s)]) ∧ NdAt S w' q' n' o' (addZ P f.data.toList s) ∧ ndC o' o ≤ (lv f.data.toList).length + 1 ∧ Below W.heap.size W w' := by
  obtain ⟨rfl, rfl, h3, h4⟩ := h
  exact (tr_Add f s W hS h3 h4 hP).mono fun e w' ⟨o', h1, h2, h3, h4, h5⟩ => ⟨_, _, o', h1, ⟨rfl, rfl, h2, h3⟩, h4, h5⟩
theorem NdAt.drop (h : NdAt S W q n o P) (hS : ∀ k, W.heap.size ≤ k → ¬ S k) (hP : P.length ≤ 110) (f : ByteArray) (s : Int) :
    Calls Try.prog 8 #[.agg #[.pointer q, .int .i64 (n : Int)], .string f, .int .i64 s] W fun e w' => ∃ (q' : Option Addr) (n' : Nat) (o' : Nd), e = .returned (.tuple #[.agg #[.pointer q', .int .i64 (n' : Int)], .int .i64 (dropK P f.data.toList s)]) ∧ NdAt S w' q' n' o' (dropZ P f.data.toList s) ∧ ndC o' o ≤ (lv f.data.toList).length + 1 ∧ Below W.heap.size W w' := by
  obtain ⟨rfl, rfl, h3, h4⟩ := h
  exact (tr_Drop f s W hS h3 h4 hP).mono fun e w' ⟨o', h1, h2, h3, h4, h5⟩ => ⟨_, _, o', h1, ⟨rfl, rfl, h2, h3⟩, h4, h5⟩
theorem NdAt.len (h : NdAt S W q n o P) : Calls Try.prog 13 #[.agg #[.pointer q, .int .i64 (n : Int)]] W fun e w' => e = .returned (.int .i64 (P.length : Int)) ∧ Below W.heap.size W w' := by
  obtain ⟨rfl, rfl, _, _⟩ := h
  exact tr_Len o P.length W
theorem NdAt.size (h : NdAt S W q n o P) (hP : P.length ≤ 110) : Calls Try.prog 15 #[.agg #[.pointer q, .int .i64 (n : Int)]] W fun e w' => e = .returned (.int .i64 ((ndN o - 1 : Nat) : Int)) ∧ Below W.heap.size W w' := by
  obtain ⟨rfl, rfl, h3, h4⟩ := h
  exact tr_Size o P.length W h3 (by have := h4.n4 hP; omega)
theorem NdAt.hasP (h : NdAt S W q n o P) (hP : P.length ≤ 110) (f : ByteArray) (s : Int) (hf : f.size ≤ 1048576) : Calls Try.prog 14 #[.agg #[.pointer q, .int .i64 (n : Int)], .string f, .int .i64 s] W fun e w' => e = .returned (.bool (decide ((f.data.toList, s) ∈ P))) ∧ Below W.heap.size W w' := by
  obtain ⟨rfl, rfl, h3, h4⟩ := h
  have := tr_Has o P.length f s W h3 (by have := h4.n4 hP; omega) (h4.l1 hP) hf
  rw [show decide (s ∈ subZ o (lv f.data.toList)) = decide ((f.data.toList, s) ∈ P) by rw [decide_eq_decide]; exact h4.mem] at this
  exact this
theorem NdAt.mat (h : NdAt S W q n o P) (hP : P.length ≤ 110) (t : ByteArray) : Calls Try.prog 18 #[.agg #[.pointer q, .int .i64 (n : Int)], .string t] W fun e w' => ∃ r, e = .returned r ∧ SetIn w' r (ofZ (mzP P t.data.toList)) ∧ Below W.heap.size W w' := by
  obtain ⟨rfl, rfl, h3, h4⟩ := h
  exact tr_Match t W h3 h4 hP
theorem NdAt.copied (h : NdAt S W q n o P) (k : NdAt S W r m o2 Q) (hP : P.length ≤ 110) (hQ : Q.length ≤ 110) : Calls Try.prog 10 #[.agg #[.pointer q, .int .i64 (n : Int)], .agg #[.pointer r, .int .i64 (m : Int)]] W fun e w' => e = .returned (.int .i64 (ndC o o2 : Int)) ∧ Below W.heap.size W w' := by
  obtain ⟨rfl, rfl, h3, h4⟩ := h
  obtain ⟨rfl, rfl, k3, k4⟩ := k
  exact tr_Copied o o2 P.length Q.length W h3 k3 h4.ok (by have := h4.n4 hP; omega) (by have := k4.n4 hQ; omega)
/-- The numbers that match are few. -/
theorem mz_len (P : List Pr) (t : Key) : (ofZ (mzP P t)).length ≤ P.length := by
  refine Nat.le_trans (ofZ_length _) ?_
  rw [mzP, List.length_map]
  exact List.length_filter_le _ _
end
/-- A trie in a box of its own. -/
structure BxAt (S : Nat → Prop) (W : World) (B : Nat) (q : Option Addr) (n : Nat) (o : Nd) (P : List Pr) : Prop where
  box : Blk 27 W B [.pointer q, .int .i64 (n : Int)]
  at_ : NdAt S W q n o P
section
variable {S S' T : Nat → Prop} {W W' : World} {B : Nat} {q r : Option Addr} {n m : Nat} {o o2 : Nd} {P Q : List Pr}
theorem BxAt.below (h : BxAt S W B q n o P) (hb : Below W.heap.size W W') : BxAt S W' B q n o P := ⟨h.box.below hb h.box.lt, h.at_.below hb⟩
theorem BxAt.only (h : BxAt S W B q n o P) (ho : Only T W W') (hT : ∀ k, T k → S k) (hB : ¬ T B) : BxAt S W' B q n o P := ⟨h.box.only ho hB, h.at_.only ho hT⟩
theorem BxAt.put (h : BxAt S W B q n o P) (hb : Below W.heap.size W W') (k : NdAt S W' r m o2 Q) (hS : S B) : BxAt S ((W'.setCell ⟨B, 0, none⟩ (.pointer r)).setCell ⟨B, 1, none⟩ (.int .i64 (m : Int))) B r m o2 Q :=
  ⟨blk_put2 (h.box.below hb h.box.lt) _ _, k.only (only_put2 W' B _ _) fun j e => by rw [e]; exact hS⟩
theorem bxAt_new (h : NdAt S W q n o P) : BxAt S (W.alloc (.cells #[.pointer q, .int .i64 (n : Int)] 27)) W.heap.size q n o P := ⟨Blk.new, h.below (new_below _ _)⟩
end
theorem addZ_len (P : List Pr) (f : Key) (s : Int) : (addZ P f s).length ≤ P.length + 1 := by
  unfold addZ
  split
  · simp
  · omega
theorem dropZ_len (P : List Pr) (f : Key) (s : Int) : (dropZ P f s).length ≤ P.length + 1 := by
  unfold dropZ
  split
  · exact Nat.le_trans (List.length_filter_le _ _) (Nat.le_succ _)
  · omega
/-- Where the loop stands. -/
structure CSt (w1 wr : World) (T k : Nat) (q : Option Addr) (n : Nat) (o : Nd) (P : List Pr) : Prop where
  bx : BxAt (fun j => j = T) wr T q n o P
  low : Below w1.heap.size w1 wr
  lt : w1.heap.size ≤ T
  len : P.length ≤ k
theorem CSt.below {w1 wr W : World} {T k : Nat} {q : Option Addr} {n : Nat} {o : Nd} {P : List Pr} (h : CSt w1 wr T k q n o P) (hb : Below wr.heap.size wr W) : CSt w1 W T k q n o P := ⟨h.bx.below hb, below_step h.low hb, h.lt, h.len⟩
theorem CSt.fresh {w1 wr : World} {T k : Nat} {q : Option Addr} {n : Nat} {o : Nd} {P : List Pr} (h : CSt w1 wr T k q n o P) : ∀ j, wr.heap.size ≤ j → ¬ j = T := fun j hj e => by have := h.bx.box.lt; omega
theorem CSt.put {w1 wr : World} {T k n n' : Nat} {q q' : Option Addr} {o o' : Nd} {P P' : List Pr} (h : CSt w1 wr T k q n o P) (hn : NdAt (fun j => j = T) wr q' n' o' P') (hl : P'.length ≤ k + 1) : CSt w1 ((wr.setCell ⟨T, 0, none⟩ (.pointer q')).setCell ⟨T, 1, none⟩ (.int .i64 (n' : Int))) T (k + 1) q' n' o' P' :=
  ⟨h.bx.put (Below.refl _ _) hn rfl, (h.low.setCell (p := ⟨T, 0, none⟩) h.lt _).setCell (p := ⟨T, 1, none⟩) h.lt _, h.lt, hl⟩
/-- Both tries, in two boxes. -/
structure Two (w1 wr : World) (T B k : Nat) (q : Option Addr) (n : Nat) (o : Nd) (P : List Pr) (r : Option Addr) (m : Nat) (o2 : Nd) (Q : List Pr) : Prop where
  st : CSt w1 wr T k q n o P
  was : BxAt (fun j => j = T) wr B r m o2 Q
  ne : B ≠ T
section
variable {w1 wr W : World} {T B k n m n' : Nat} {q r q' : Option Addr} {o o2 o' : Nd} {P Q P' : List Pr}
theorem Two.below (h : Two w1 wr T B k q n o P r m o2 Q) (hb : Below wr.heap.size wr W) : Two w1 W T B k q n o P r m o2 Q := ⟨h.st.below hb, h.was.below hb, h.ne⟩
theorem Two.put (h : Two w1 wr T B k q n o P r m o2 Q) (hn : NdAt (fun j => j = T) wr q' n' o' P') (hl : P'.length ≤ k + 1) : Two w1 ((wr.setCell ⟨T, 0, none⟩ (.pointer q')).setCell ⟨T, 1, none⟩ (.int .i64 (n' : Int))) T B (k + 1) q' n' o' P' r m o2 Q :=
  ⟨h.st.put hn hl, h.was.only (only_put2 wr T _ _) (fun _ e => e) h.ne, h.ne⟩
end
/-- And a third one. -/
structure Three (w1 wr : World) (T B C k : Nat) (q : Option Addr) (n : Nat) (o : Nd) (P : List Pr) (r : Option Addr) (m : Nat) (o2 : Nd) (Q : List Pr) (r3 : Option Addr) (m3 : Nat) (o3 : Nd) (Q3 : List Pr) : Prop where
  two : Two w1 wr T B k q n o P r m o2 Q
  v : BxAt (fun j => j = T) wr C r3 m3 o3 Q3
theorem Three.below {w1 wr W : World} {T B C k n m m3 : Nat} {q r r3 : Option Addr} {o o2 o3 : Nd} {P Q Q3 : List Pr} (h : Three w1 wr T B C k q n o P r m o2 Q r3 m3 o3 Q3) (hb : Below wr.heap.size wr W) : Three w1 W T B C k q n o P r m o2 Q r3 m3 o3 Q3 := ⟨h.two.below hb, h.v.below hb⟩
theorem addE_bad {P : List Pr} {f : Key} {s : Int} (hf : filterZ f = false) : addE P f s = 3 := by rw [addE, if_neg (by simp [hf])]
theorem addE_twice {P : List Pr} {f : Key} {s : Int} (hf : filterZ f = true) (h : (f, s) ∈ P) : addE P f s = 5 := by rw [addE, if_pos hf, if_pos h]
theorem addE_new {P : List Pr} {f : Key} {s : Int} (hf : filterZ f = true) (h : (f, s) ∉ P) : addE P f s = 0 := by rw [addE, if_pos hf, if_neg h]
theorem addZ_bad {P : List Pr} {f : Key} {s : Int} (hf : filterZ f = false) : addZ P f s = P := if_neg fun e => by rw [hf] at e; exact absurd e.1 (by decide)
theorem addZ_twice {P : List Pr} {f : Key} {s : Int} (h : (f, s) ∈ P) : addZ P f s = P := if_neg fun e => e.2 h
theorem addZ_new {P : List Pr} {f : Key} {s : Int} (hf : filterZ f = true) (h : (f, s) ∉ P) : addZ P f s = P ++ [(f, s)] := if_pos ⟨hf, h⟩
theorem mz_same {P Q : List Pr} (h : ∀ x, x ∈ P ↔ x ∈ Q) (t : Key) : ofZ (mzP P t) = ofZ (mzP Q t) :=
  up_ext (ofZ_facts _).1 (ofZ_facts _).1 fun z => by
    rw [(ofZ_facts _).2, (ofZ_facts _).2, mem_mzP, mem_mzP]
    constructor
    · rintro ⟨f, h1, h2⟩; exact ⟨f, (h _).1 h1, h2⟩
    · rintro ⟨f, h1, h2⟩; exact ⟨f, (h _).2 h1, h2⟩
end Go.Proofs.Ytmfejpbijllojaa
