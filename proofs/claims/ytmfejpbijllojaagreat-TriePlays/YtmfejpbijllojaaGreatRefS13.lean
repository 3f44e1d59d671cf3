/- The document's trie of layer 13: Match and Size. -/
import Derived.Test.YtmfejpbijllojaaGreatRefD13
import Derived.Test.YtmfejpbijllojaaGreatRefPut3
import Derived.Test.YtmfejpbijllojaaGreatRef2
import Derived.Test.YtmfejpbijllojaaGreatRef3
namespace Go.Proofs.YtmfejpbijllojaaGreat
open Go.RowKit Go.Shelf

theorem withZ_ofZ (x : Int) (L : List Int) : withZ x (ofZ L) = ofZ (L ++ [x]) :=
  up_ext (up_withZ (ofZ_facts _).1) (ofZ_facts _).1 fun z => by
    rw [mem_withZ, (ofZ_facts _).2, (ofZ_facts _).2, List.mem_append, List.mem_singleton]
    exact or_comm
theorem mz_snoc_yes {P : List Pr} {p : Pr} {t : Key} (h : matchZ p.1 t = true) : mzP (P ++ [p]) t = mzP P t ++ [p.2] := by simp [mzP, h]
theorem mz_snoc_no {P : List Pr} {p : Pr} {t : Key} (h : matchZ p.1 t = false) : mzP (P ++ [p]) t = mzP P t := by simp [mzP, h]
theorem mz_le (P : List Pr) (t : Key) : (ofZ (mzP P t)).length ≤ P.length := by
  refine Nat.le_trans (ofZ_length _) ?_
  rw [mzP, List.length_map]
  exact List.length_filter_le _ _
theorem take_snoc13s {α : Type} {P : List α} {k : Nat} {p : α} (h : P[k]? = some p) : P.take (k + 1) = P.take k ++ [p] := by
  obtain ⟨hk, rfl⟩ := List.getElem?_eq_some_iff.1 h
  exact List.take_succ_eq_append_getElem hk

set_option maxRecDepth 100000 in
set_option maxHeartbeats 4000000 in
theorem rf_Match {S : Nat → Prop} (v0 : Value) (P : List Pr) (t : ByteArray) (w : World) (h : RfAt S w v0 P) (hbig : P.length ≤ 10000) (hkl : ∀ p ∈ P, p.1.length ≤ 1048576) (ht : t.size ≤ 1048576) :
    Calls Tryz.prog 19 #[v0, .string t] w fun e w' => ∃ r, e = .returned r ∧ NumsIn w' r (ofZ (mzP P t.data.toList)) ∧ Below w.heap.size w w' := by
  obtain ⟨ka, kc, va, vc, rfl, h1, h2, _, _⟩ := h
  have b0 : Blk 32 (w.alloc (.cells #[.slice ka P.length kc, .slice va P.length vc] 32)) w.heap.size [.slice ka P.length kc, .slice va P.length vc] := Blk.new
  have hB := new_below w (.cells #[.slice ka P.length kc, .slice va P.length vc] 32)
  have K1 := Lib.hid (fun i p (hp : P[i]? = some p) => slice_at (f := fun p : Pr => keyV p.1) (h1.below hB) i p hp)
  have V1 := Lib.hid (fun i p (hp : P[i]? = some p) => slice_at (f := fun p : Pr => numV p.2) (h2.below hB) i p hp)
  have HB := Lib.hid hB
  have HKL := Lib.hid hkl
  clear h1 h2 hB hkl
  go_enter Tryz.func19, Tryz.ntmps19
  go_wp2_with fail
  generalize w.alloc (.cells #[.slice ka P.length kc, .slice va P.length vc] 32) = W2 at *
  have HB0 := Lib.hid b0
  clear b0
  go_loopw [5, 6] (fun o i wr => ∃ k : Nat, k ≤ P.length ∧ i = .int .i64 k ∧ Hid (NumsIn wr o (ofZ (mzP (P.take k) t.data.toList))) ∧ Hid (Below W2.heap.size W2 wr)) (fun _ i _ => P.length - (intOf i).toNat)
  case atStart => exact ⟨0, Nat.zero_le _, rfl, Lib.hid (by rw [List.take_zero, show mzP [] t.data.toList = [] from rfl, show ofZ [] = [] by simp [ofZ, Lib.compact, Lib.compactUpTo]]; exact ⟨rfl, .inl ⟨rfl, rfl⟩⟩), Lib.hid (Below.refl _ _)⟩
  case round =>
    obtain ⟨k, hk, rfl, HN, HL⟩ := hrel
    have hb := HB0.out.below HL.out HB0.out.lt
    have k0 := hb.at (o := 0) rfl
    clear hb
    by_cases hlt : k < P.length
    · obtain ⟨⟨pk, ps⟩, hp⟩ : ∃ p, P[k]? = some p := ⟨_, List.getElem?_eq_getElem hlt⟩
      obtain ⟨b, off, rfl, hbl, hc1⟩ := K1.out k _ hp
      obtain ⟨b', off', rfl, hbl', hc2⟩ := V1.out k _ hp
      have hlt2 : (k : Int) < (P.length : Int) := by omega
      have HP := Lib.hid hp
      have hpl : pk.length ≤ 1048576 := HKL.out _ (List.mem_of_getElem? hp)
      dsimp only at hc1 hc2
      have hd1 := (HL.out.cell (p := ⟨b, off + k, none⟩) hbl).trans hc1
      have HC2 := Lib.hid hc2
      clear hp hc1 hc2
      go_wp2_with fail
      refine (ref2_Match ⟨pk.toArray⟩ t wr (by simpa [ByteArray.size] using hpl) ht).mono ?_
      rintro e w3 ⟨rfl, hB3⟩
      have HL3 := Lib.hid (below_step HL.out hB3)
      have HN3 := Lib.hid (HN.out.below hB3)
      have hb := HB0.out.below HL3.out HB0.out.lt
      have k1 := hb.at (o := 1) rfl
      have hd2 := (HL3.out.cell (p := ⟨b', off' + k, none⟩) hbl').trans HC2.out
      cases hm : matchZ pk t.data.toList with
      | true =>
        have HM := Lib.hid hm
        clear hb hB3 hm HN HL k0 hd1
        go_wp2_with fail
        refine (ref_With _ _ ps w3 HN3.out (by have := mz_le (P.take k) t.data.toList; rw [List.length_take] at this; omega)).mono ?_
        rintro e w4 ⟨r, rfl, hn, hB4⟩
        have HL4 := Lib.hid (below_step HL3.out hB4)
        have HN4 : Hid (NumsIn w4 r (ofZ (mzP (P.take (k + 1)) t.data.toList))) := Lib.hid (by
          rw [take_snoc13s HP.out, mz_snoc_yes HM.out, ← withZ_ofZ]; exact hn)
        clear hn hB4 k1 hd2 HN3 HL3
        go_wp2
        go_roundw
        case rel => exact ⟨k + 1, by omega, by go_num, HN4, HL4⟩
        case measure => simp [intOf]; omega
      | false =>
        have HN4 : Hid (NumsIn w3 u5 (ofZ (mzP (P.take (k + 1)) t.data.toList))) := Lib.hid (by
          rw [take_snoc13s HP.out, mz_snoc_no hm]; exact HN3.out)
        clear hb hB3 hm HN HL k0 hd1 k1 hd2
        go_wp2
        go_roundw
        case rel => exact ⟨k + 1, by omega, by go_num, HN4, HL3⟩
        case measure => simp [intOf]; omega
    · obtain rfl : k = P.length := by omega
      rw [List.take_length] at HN
      have hnl : ¬ ((P.length : Int) < (P.length : Int)) := by omega
      go_wp2
      go_ret
      exact ⟨_, rfl, HN.out, below_step HB.out HL.out⟩

/-- A path as a text: a 47 ahead of each level. -/
def keyZ (q : List Key) : Key := q.flatMap fun x => 47 :: x
theorem keyZ_snoc (q : List Key) (x : Key) : keyZ (q ++ [x]) = keyZ q ++ 47 :: x := by simp [keyZ]
theorem lv_keyZ : ∀ {q : List Key}, q ≠ [] → (∀ x ∈ q, (47 : UInt8) ∉ x) → lv (keyZ q) = [] :: q
  | [], h, _ => absurd rfl h
  | [x], _, h => by
    have : keyZ [x] = 47 :: x := by simp [keyZ]
    rw [this, lv_sep, lv_plain x (h x (by simp))]
  | x :: y :: r, _, h => by
    have ih := lv_keyZ (q := y :: r) (by simp) fun z hz => h z (by simp [hz])
    have e : keyZ (x :: y :: r) = 47 :: (x ++ keyZ (y :: r)) := by simp [keyZ]
    have e2 : keyZ (y :: r) = 47 :: (y ++ keyZ r) := by simp [keyZ]
    rw [e2, lv_sep] at ih
    rw [e, lv_sep, e2, lv_cut x _ (h x (by simp))]
    rw [show lv (y ++ keyZ r) = y :: r by injection ih]
theorem lv_no47 : ∀ (l x : Key), x ∈ lv l → (47 : UInt8) ∉ x
  | [], x, h => by simp [lv] at h; subst h; simp
  | b :: l, x, h => by
    by_cases hb : b = 47
    · subst hb
      rw [lv_sep, List.mem_cons] at h
      rcases h with rfl | h
      · simp
      · exact lv_no47 l x h
    · obtain ⟨y, r, e⟩ := List.exists_cons_of_ne_nil (lv_ne l)
      rw [lv_cons hb e, List.mem_cons] at h
      rcases h with rfl | h
      · have := lv_no47 l y (by rw [e]; simp)
        rw [List.mem_cons]
        rintro (h | h)
        · exact hb h.symm
        · exact this h
      · exact lv_no47 l x (by rw [e]; simp [h])
theorem keyZ_len {M : Nat} : ∀ {q : List Key}, (∀ x ∈ q, x.length ≤ M) → (keyZ q).length ≤ (M + 1) * q.length
  | [], _ => by simp [keyZ]
  | x :: r, h => by
    have h1 := h x (by simp)
    have h2 := keyZ_len (q := r) fun y hy => h y (by simp [hy])
    have e : keyZ (x :: r) = 47 :: (x ++ keyZ r) := by simp [keyZ]
    rw [e, List.length_cons, List.length_append, List.length_cons, Nat.mul_succ]; omega
theorem putE_keys {k : Key} {x : Int} : ∀ {E : List Ent} {key : Key}, (∃ p ∈ putE k x E, p.1 = key) ↔ key = k ∨ ∃ p ∈ E, p.1 = key
  | [], key => by simp [putE, eq_comm]
  | p :: r, key => by
    have ih := putE_keys (k := k) (x := x) (E := r) (key := key)
    unfold putE
    split
    · constructor
      · rintro ⟨q, hq, e⟩
        rcases List.mem_cons.1 hq with rfl | hq
        · exact .inr ⟨_, by simp, e⟩
        · rcases ih.1 ⟨q, hq, e⟩ with h | ⟨q, hq, e⟩
          · exact .inl h
          · exact .inr ⟨q, by simp [hq], e⟩
      · rintro (h | ⟨q, hq, e⟩)
        · obtain ⟨q, hq, e⟩ := ih.2 (.inl h)
          exact ⟨q, by simp [hq], e⟩
        · rcases List.mem_cons.1 hq with rfl | hq
          · exact ⟨_, by simp, e⟩
          · obtain ⟨q, hq, e⟩ := ih.2 (.inr ⟨q, hq, e⟩)
            exact ⟨q, by simp [hq], e⟩
    · constructor
      · rintro ⟨q, hq, e⟩
        rcases List.mem_cons.1 hq with rfl | hq
        · exact .inl e.symm
        · exact .inr ⟨q, (List.mem_filter.1 hq).1, e⟩
      · rintro (h | ⟨q, hq, e⟩)
        · exact ⟨(k, x), by simp, h.symm⟩
        · by_cases hk : q.1 = k
          · exact ⟨(k, x), by simp, by rw [← e, hk]⟩
          · exact ⟨q, List.mem_cons.2 (.inr (List.mem_filter.2 ⟨hq, by simpa using hk⟩)), e⟩
/-- The map's keys are the texts of these paths. -/
structure MkIs (P : List Pr) (E : List Ent) (A : List Key → Prop) : Prop where
  up : KUp E
  keys : ∀ key, (∃ p ∈ E, p.1 = key) ↔ ∃ q, A q ∧ key = keyZ q
  sub : ∀ q, A q → q ∈ allP P
section
variable {P : List Pr} {E : List Ent} {A B : List Key → Prop}
theorem all_ne {q : List Key} (h : q ∈ allP P) : q ≠ [] ∧ ∀ x ∈ q, (47 : UInt8) ∉ x := by
  obtain ⟨h1, y, hy, hp⟩ := mem_allP.1 h
  exact ⟨h1, fun x hx => lv_no47 y.1 x (hp.subset hx)⟩
theorem MkIs.nodes (h : MkIs P E A) : (E.map fun p => (lv p.1).tail).Nodup ∧ ∀ q, q ∈ (E.map fun p => (lv p.1).tail) ↔ A q := by
  have hk : ∀ p ∈ E, ∃ q, A q ∧ p.1 = keyZ q ∧ (lv p.1).tail = q := fun p hp => by
    obtain ⟨q, hq, e⟩ := (h.keys p.1).1 ⟨p, hp, rfl⟩
    obtain ⟨h1, h2⟩ := all_ne (h.sub q hq)
    exact ⟨q, hq, e, by rw [e, lv_keyZ h1 h2]; rfl⟩
  refine ⟨?_, fun q => ?_⟩
  · refine List.pairwise_map.2 (List.Pairwise.imp_of_mem (fun {a b} ha hb hab e => ?_) h.up)
    obtain ⟨q1, _, e1, f1⟩ := hk a ha
    obtain ⟨q2, _, e2, f2⟩ := hk b hb
    rw [f1, f2] at e
    rw [e1, e2, e, bl_irrefl] at hab
    cases hab
  · rw [List.mem_map]
    constructor
    · rintro ⟨p, hp, rfl⟩
      obtain ⟨q, hq, _, f⟩ := hk p hp
      rw [f]; exact hq
    · intro hq
      obtain ⟨p, hp, e⟩ := (h.keys (keyZ q)).2 ⟨q, hq, rfl⟩
      obtain ⟨h1, h2⟩ := all_ne (h.sub q hq)
      exact ⟨p, hp, by rw [e, lv_keyZ h1 h2]; rfl⟩
theorem MkIs.size (h : MkIs P E fun q => q ∈ allP P) : SizeIs P E.length := ⟨_, h.nodes.1, by simp, h.nodes.2⟩
theorem MkIs.len (h : MkIs P E A) (hP : ∀ p ∈ P, filterZ p.1 = true) : E.length ≤ 33 * P.length := by
  have h1 := nodup_le h.nodes.1 (b := allP P) fun q hq => h.sub q ((h.nodes.2 q).1 hq)
  have h2 := allP_len (P := P) (M := 33) fun x hx => lv_small (hP x hx)
  rw [List.length_map] at h1; omega
theorem MkIs.klen (h : MkIs P E A) (hP : ∀ p ∈ P, filterZ p.1 = true) : ∀ p ∈ E, p.1.length ≤ 1000000 := fun p hp => by
  obtain ⟨q, hq, e⟩ := (h.keys p.1).1 ⟨p, hp, rfl⟩
  obtain ⟨_, y, hy, hpre⟩ := mem_allP.1 (h.sub q hq)
  have hf := hP y hy
  have h1 := keyZ_len (M := 32) (q := q) fun x hx => Nat.le_trans (lv_mem_le y.1 x (hpre.subset hx)) (bytesOk_len (filterZ_bytes hf)).2
  have h2 := hpre.length_le
  have h3 := lv_small hf
  rw [e]; omega
theorem MkIs.put (h : MkIs P E A) {q : List Key} (hq : q ∈ allP P) (hB : ∀ r, B r ↔ A r ∨ r = q) : MkIs P (putE (keyZ q) 0 E) B := by
  refine ⟨kup_putE h.up, fun key => ?_, fun r hr => ?_⟩
  · rw [putE_keys, h.keys]
    constructor
    · rintro (rfl | ⟨r, hr, e⟩)
      · exact ⟨q, (hB q).2 (.inr rfl), rfl⟩
      · exact ⟨r, (hB r).2 (.inl hr), e⟩
    · rintro ⟨r, hr, e⟩
      rcases (hB r).1 hr with hr | rfl
      · exact .inr ⟨r, hr, e⟩
      · exact .inl e
  · rcases (hB r).1 hr with hr | rfl
    · exact h.sub r hr
    · exact hq
theorem MkIs.same (h : MkIs P E A) (hB : ∀ r, B r ↔ A r) : MkIs P E B :=
  ⟨h.up, fun key => (h.keys key).trans ⟨fun ⟨q, hq, e⟩ => ⟨q, (hB q).2 hq, e⟩, fun ⟨q, hq, e⟩ => ⟨q, (hB q).1 hq, e⟩⟩, fun q hq => h.sub q ((hB q).1 hq)⟩
end
theorem pre_snoc13 {q l : List Key} {x : Key} : q <+: l ++ [x] ↔ q <+: l ∨ q = l ++ [x] := by
  constructor
  · rintro ⟨t, ht⟩
    rcases List.eq_nil_or_concat t with rfl | ⟨t', y, rfl⟩
    · rw [List.append_nil] at ht; exact .inr ht
    · rw [List.concat_eq_append, ← List.append_assoc] at ht
      exact .inl ⟨t', (List.append_inj' ht rfl).1⟩
  · rintro (⟨t, rfl⟩ | rfl)
    · exact ⟨t ++ [x], by simp⟩
    · exact List.prefix_refl _
/-- A path of these filters, or a beginning of this one. -/
def Aik (P : List Pr) (ls : List Key) (k : Nat) (q : List Key) : Prop := q ∈ allP P ∨ (q ≠ [] ∧ q <+: ls.take k)
theorem aik_step {P : List Pr} {ls : List Key} {k : Nat} {x : Key} (h : ls[k]? = some x) (q : List Key) : Aik P ls (k + 1) q ↔ Aik P ls k q ∨ q = ls.take (k + 1) := by
  unfold Aik
  rw [take_snoc13s h, pre_snoc13]
  constructor
  · rintro (h | ⟨h1, h2 | h2⟩)
    · exact .inl (.inl h)
    · exact .inl (.inr ⟨h1, h2⟩)
    · exact .inr h2
  · rintro ((h | ⟨h1, h2⟩) | h)
    · exact .inl h
    · exact .inr ⟨h1, .inl h2⟩
    · exact .inr ⟨by rw [h]; simp, .inr h⟩
theorem aik_zero {P : List Pr} {ls : List Key} (q : List Key) : Aik P ls 0 q ↔ q ∈ allP P := by
  unfold Aik
  rw [List.take_zero, List.prefix_nil]
  exact ⟨fun h => h.elim id fun h => absurd h.2 h.1, .inl⟩
theorem aik_full {P : List Pr} {p : Pr} (q : List Key) : q ∈ allP (P ++ [p]) ↔ Aik P (lv p.1) (lv p.1).length q := by
  unfold Aik
  rw [List.take_length, mem_allP, mem_allP]
  constructor
  · rintro ⟨h, x, hx, hp⟩
    rw [List.mem_append, List.mem_singleton] at hx
    rcases hx with hx | rfl
    · exact .inl ⟨h, x, hx, hp⟩
    · exact .inr ⟨h, hp⟩
  · rintro (⟨h, x, hx, hp⟩ | ⟨h, hp⟩)
    · exact ⟨h, x, by simp [hx], hp⟩
    · exact ⟨h, p, by simp, hp⟩

set_option maxRecDepth 100000 in
set_option maxHeartbeats 8000000 in
theorem rf_Size {S : Nat → Prop} (v0 : Value) (P : List Pr) (w : World) (h : RfAt S w v0 P) (hbig : P.length ≤ 200) (hfl : ∀ p ∈ P, filterZ p.1 = true) :
    Calls Tryz.prog 15 #[v0] w fun e w' => ∃ n : Nat, e = .returned (.int .i64 (n : Int)) ∧ SizeIs P n ∧ Below w.heap.size w w' := by
  obtain ⟨ka, kc, va, vc, rfl, h1, h2, _, _⟩ := h
  have K1 := Lib.hid (fun i p (hp : P[i]? = some p) => slice_at (f := fun p : Pr => keyV p.1) h1 i p hp)
  have HFL := Lib.hid hfl
  clear h1 h2 hfl
  go_enter Tryz.func15, Tryz.ntmps15
  go_wp2_with fail
  obtain ⟨W2, hW2, b0, bm, hB, z2⟩ : ∃ W2, (w.alloc (.cells #[.slice ka P.length kc, .slice va P.length vc] 32)).alloc (.cells #[.slice none 0 0, .slice none 0 0] 61) = W2 ∧ Blk 32 W2 w.heap.size [.slice ka P.length kc, .slice va P.length vc] ∧ Blk 61 W2 (w.heap.size + 1) [.slice none 0 0, .slice none 0 0] ∧ Below w.heap.size w W2 ∧ W2.heap.size = w.heap.size + 2 := by
    refine ⟨_, rfl, Blk.alloc Blk.new _, ?_, below_step (new_below _ _) (new_below _ _), by simp⟩
    have := Blk.new (W := w.alloc (.cells #[.slice ka P.length kc, .slice va P.length vc] 32)) (t := 61) (l := [.slice none 0 0, .slice none 0 0])
    rw [World.size_alloc] at this; exact this
  rw [hW2]
  have HB := Lib.hid hB
  obtain ⟨M, hM⟩ : ∃ M, w.heap.size + 1 = M := ⟨_, rfl⟩
  rw [hM] at bm ⊢
  have HB0 := Lib.hid b0
  have hM2 : w.heap.size < M := by omega
  have hM3 : M + 1 = W2.heap.size := by omega
  have ST0 : Hid (Blk 61 W2 M [.slice none 0 0, .slice none 0 0] ∧ RfAt (fun j => j = M) W2 (.agg #[.slice none 0 0, .slice none 0 0]) [] ∧ MkIs P [] (fun q => q ∈ allP (P.take 0)) ∧ Only (fun j => j = M) W2 W2) := Lib.hid ⟨bm, rfAt_nil _ _, ⟨List.Pairwise.nil, fun key => by simp [allP], fun q hq => by simp [allP] at hq⟩, Only.refl _ _⟩
  have HMM : Hid (w.heap.size < M ∧ M + 1 = W2.heap.size) := ⟨hM2, hM3⟩
  clear b0 bm hW2 hM z2 hB
  go_loopg [4] P.length (fun g i wr => ∃ (k : Nat) (sa sb : Option Addr) (na ca nb cb : Nat) (E : List Ent), k + g = P.length ∧ i = .int .i64 k ∧ Hid (Blk 61 wr M [.slice sa na ca, .slice sb nb cb] ∧ RfAt (fun j => j = M) wr (.agg #[.slice sa na ca, .slice sb nb cb]) E ∧ MkIs P E (fun q => q ∈ allP (P.take k)) ∧ Only (fun j => j = M) W2 wr))
  case atStart => exact ⟨0, _, _, _, _, _, _, [], by omega, rfl, ST0⟩
  case round =>
    obtain ⟨k, sa, sb, na, ca, nb, cb, E, hk, rfl, ST⟩ := hrel
    clear ST0
    have k0 := (HB0.out.only ST.out.2.2.2 (by omega)).at (o := 0) rfl
    by_cases hlt : k < P.length
    · obtain ⟨⟨pk, ps⟩, hp⟩ : ∃ p, P[k]? = some p := ⟨_, List.getElem?_eq_getElem hlt⟩
      obtain ⟨b, off, rfl, hbl, hc1⟩ := K1.out k _ hp
      have hlt2 : (k : Int) < (P.length : Int) := by omega
      have HP := Lib.hid hp
      have hfk : filterZ pk = true := HFL.out _ (List.mem_of_getElem? hp)
      have hpl : pk.length ≤ 32 := (bytesOk_len (filterZ_bytes hfk)).2
      have hll := lv_small hfk
      dsimp only at hc1
      have hd1 : wr.cell? ⟨b, off + k, none⟩ = some (keyV pk) := (World.cell?_of_block (w := W2) (ST.out.2.2.2.block b (by omega) (fun e => by omega))).trans ((HB.out.cell (p := ⟨b, off + k, none⟩) hbl).trans hc1)
      clear hp hc1 hfk
      go_wp2_with fail
      refine (ref_Levels_cells ⟨pk.toArray⟩ wr (by simp [ByteArray.size]; omega)).mono ?_
      rintro e w3 ⟨g, lc, rfl, hg1, hg2, hg3, hB3⟩
      obtain ⟨ls, hls⟩ : ∃ ls, lv pk = ls := ⟨_, rfl⟩
      rw [show lv (⟨pk.toArray⟩ : ByteArray).data.toList = ls from hls] at hg3 ⊢
      rw [hls] at hll
      have HLS := Lib.hid hls
      have HG : Hid (∀ W, Only (fun j => j = M) w3 W → ∀ i x, ls[i]? = some x → W.cell? ⟨g, i, none⟩ = some (keyV x)) := Lib.hid fun W hW i x hx => (World.cell?_of_block (w := w3) (hW.block g hg2 (fun e => by have := ST.out.1.lt; omega))).trans (hg3 i x hx)
      have ST3 : Hid (Blk 61 w3 M [.slice sa na ca, .slice sb nb cb] ∧ RfAt (fun j => j = M) w3 (.agg #[.slice sa na ca, .slice sb nb cb]) E ∧ MkIs P E (Aik (P.take k) ls 0) ∧ Only (fun j => j = M) w3 w3) := Lib.hid ⟨ST.out.1.below hB3 ST.out.1.lt, ST.out.2.1.below hB3, ST.out.2.2.1.same fun r => aik_zero r, Only.refl _ _⟩
      have HO3 : Hid (Only (fun j => j = M) W2 w3) := Lib.hid (ST.out.2.2.2.trans (Only.of_below hB3 _))
      clear hls ST hg1 hg2 hg3 hB3 k0 hd1 hbl
      go_wp2_with fail
      obtain ⟨gOut, hgOut⟩ : ∃ g : Nat, g = gk := ⟨_, rfl⟩
      have hgo : k + gOut = P.length := by omega
      go_loopg [6, 7] ls.length (fun g2 s6 i wq => ∃ (j : Nat) (tb : ByteArray) (sa sb : Option Addr) (na ca nb cb : Nat) (E : List Ent), j + g2 = ls.length ∧ i = .int .i64 j ∧ s6 = .string tb ∧ tb.size ≤ 33 * j ∧ Hid (tb = ⟨(keyZ (ls.take j)).toArray⟩) ∧ Hid (Blk 61 wq M [.slice sa na ca, .slice sb nb cb] ∧ RfAt (fun j => j = M) wq (.agg #[.slice sa na ca, .slice sb nb cb]) E ∧ MkIs P E (Aik (P.take k) ls j) ∧ Only (fun j => j = M) w3 wq))
      case atStart => exact ⟨0, ⟨#[]⟩, _, _, _, _, _, _, E, by omega, rfl, rfl, by simp [ByteArray.size], Lib.hid (by rw [List.take_zero]; rfl), ST3⟩
      case round =>
        obtain ⟨j, tb, sa, sb, na, ca, nb, cb, E, hj, rfl, rfl, htb, HTB, SQ⟩ := hrel
        clear ST3
        by_cases hjl : j < ls.length
        · obtain ⟨x, hx⟩ : ∃ x, ls[j]? = some x := ⟨_, List.getElem?_eq_getElem hjl⟩
          have hjl2 : (j : Int) < (ls.length : Int) := by omega
          have cg := HG.out wr SQ.out.2.2.2 j x hx
          have m0 := SQ.out.1.at (o := 0) rfl
          have m1 := SQ.out.1.at (o := 1) rfl
          have hxl : x.length ≤ 32 := Nat.le_trans (lv_mem_le pk x (by rw [HLS.out]; exact List.mem_of_getElem? hx)) hpl
          have htbn : (tb ++ ⟨#[47]⟩ ++ ⟨x.toArray⟩ : ByteArray).size ≤ 33 * (j + 1) := by
            rw [ByteArray.size_append, ByteArray.size_append]
            show tb.size + 1 + x.toArray.size ≤ _
            simp; omega
          have HTN := Lib.hid htbn
          have HSK : Hid (tb ++ ⟨#[47]⟩ ++ ⟨x.toArray⟩ = ⟨(keyZ (ls.take (j + 1))).toArray⟩) := Lib.hid (by
            rw [take_snoc13s hx, keyZ_snoc, HTB.out]
            apply ByteArray.ext
            simp [ByteArray.data_append])
          have hq : ls.take (j + 1) ∈ allP P := by
            rw [mem_allP]
            exact ⟨by rw [take_snoc13s hx]; simp, _, List.mem_of_getElem? HP.out, by rw [HLS.out]; exact List.take_prefix _ _⟩
          have HMk := Lib.hid (SQ.out.2.2.1.put hq (aik_step hx))
          have hEl := SQ.out.2.2.1.len HFL.out
          have HEk := Lib.hid (SQ.out.2.2.1.klen HFL.out)
          have HRf := Lib.hid SQ.out.2.1
          clear hx hq htbn
          go_wp2_with fail
          obtain ⟨tn, htn⟩ : ∃ tn : ByteArray, tb ++ ⟨#[47]⟩ ++ ⟨x.toArray⟩ = tn := ⟨_, rfl⟩
          rw [htn] at HTN HSK ⊢
          have HTNS := Lib.hid HTN.out
          rw [HSK.out] at htn HTNS ⊢
          clear htn HTN
          refine (ref_Put0 _ E (keyZ (ls.take (j + 1))) 0 wr HRf.out.ref (by omega) HEk.out).mono ?_
          rintro e w4 ⟨r, rfl, ⟨hri, ko, vo, rfl, hf1, hf2⟩, hB4⟩
          have hlt4 := SQ.out.1.lt
          obtain ⟨ka', kc', va', vc', e4, r1, r2⟩ := hri
          cases e4
          have HR4 : Hid (RfAt (fun j => j = M) w4 (.agg #[.slice ka' (putE (keyZ (ls.take (j + 1))) 0 E).length kc', .slice va' (putE (keyZ (ls.take (j + 1))) 0 E).length vc']) (putE (keyZ (ls.take (j + 1))) 0 E)) :=
            Lib.hid ⟨ka', kc', va', vc', rfl, r1, r2, fun g o n c he hg => by have := hf1 g o n c he; omega, fun g o n c he hg => by have := hf2 g o n c he; omega⟩
          have b4 := SQ.out.1.below hB4 SQ.out.1.lt
          have HB4 := Lib.hid b4
          have m0 := b4.at (o := 0) rfl
          have m1 := b4.at (o := 1) rfl
          have f0 := b4.frozen 0
          have f1 := b4.frozen 1
          have HO4 := Lib.hid (SQ.out.2.2.2.trans (Only.of_below hB4 (fun j => j = M)))
          clear r1 r2 hf1 hf2 hB4 b4 cg SQ HRf HEk hlt4
          generalize (putE (keyZ (ls.take (j + 1))) 0 E) = E' at *
          go_wp2_with fail
          go_roundg (gk - 1)
          case measure => omega
          case rel => exact ⟨j + 1, _, _, _, _, _, _, _, E', by omega, by go_num, rfl, HTNS.out, Lib.hid rfl, Lib.hid ⟨blk_put13 HB4.out _ _, HR4.out.only (only_put13 _ M _ _) (fun _ e => e), HMk.out, HO4.out.trans (only_put13 _ M _ _)⟩⟩
        · obtain rfl : j = ls.length := by omega
          have hge : ¬ ((ls.length : Int) < (ls.length : Int)) := by omega
          have HQ : Hid (Blk 61 wr M [.slice sa na ca, .slice sb nb cb] ∧ RfAt (fun j => j = M) wr (.agg #[.slice sa na ca, .slice sb nb cb]) E ∧ MkIs P E (fun q => q ∈ allP (P.take (k + 1))) ∧ Only (fun j => j = M) W2 wr) := Lib.hid ⟨SQ.out.1, SQ.out.2.1, SQ.out.2.2.1.same fun q => by rw [take_snoc13s HP.out]; have := aik_full (P := P.take k) (p := (pk, ps)) q; rw [show lv (pk, ps).1 = ls from HLS.out] at this; exact this, HO3.out.trans SQ.out.2.2.2⟩
          clear SQ
          go_wp2_with fail
          go_roundg (gOut - 1)
          case measure => omega
          case rel => exact ⟨k + 1, _, _, _, _, _, _, E, by omega, by go_num, HQ⟩
    · obtain rfl : k = P.length := by omega
      have hge : ¬ ((P.length : Int) < (P.length : Int)) := by omega
      have m0 := ST.out.1.at (o := 0) rfl
      have HE := Lib.hid ST.out
      obtain ⟨_, _, _, _, hv, _⟩ := ST.out.2.1
      cases hv
      have HSz : Hid (SizeIs P E.length) := Lib.hid (by
        have := HE.out.2.2.1
        rw [List.take_length] at this
        exact this.size)
      clear ST
      go_wp2
      go_ret
      exact ⟨_, rfl, HSz.out, HB.out.trans (HE.out.2.2.2.below (by have := HMM.out; omega) (fun j hj e => by have := HMM.out; omega))⟩
end Go.Proofs.YtmfejpbijllojaaGreat
