/- LockPlays: where its loop stands; how it begins. -/
import Derived.Test.YthhhbcjnihnlmaaLaw5
import Derived.Test.YthhhbcjnihnlmaaRefLock5
import Derived.Test.YthhhbcjnihnlmaaRecs
import Derived.Test.YthhhbcjnihnlmaaIntsRef
import Derived.Deep.CutBlock
import Derived.Deep.RegionHeld3
namespace Go.Proofs.Ythhhbcjnihnlmaa
open Go.RowKit

/-- A deed as it came in. -/
abbrev encD (p : Int × Int × Bool) : List Value := [.int .i64 p.1, .int .i64 p.2.1, .bool p.2.2]
/-- How many locks a group has. -/
def groupN (n : Int) : Nat := if 1 ≤ n ∧ n ≤ 1024 then n.toNat else 0
theorem groupN_le (n : Int) : groupN n ≤ 1024 := by unfold groupN; split <;> omega
/-- What Locks leaves. -/
structure LocksNew (w : World) (n : Nat) (e : Ending) (w' : World) : Prop where
  ex : ∃ G B, e = .returned (.pointer (some ⟨G, 0, none⟩)) ∧ GroupIs w' G B (List.replicate n ⟨0, 0, 0⟩) ∧ w.heap.size ≤ G ∧ w.heap.size ≤ B ∧ G < w'.heap.size ∧ B < w'.heap.size
  below : Below w.heap.size w w'
theorem locks_any (n : Int) (w : World) : Calls Try.prog 7 #[.int .i64 n] w (LocksNew w (groupN n)) := by
  by_cases h : 1 ≤ n ∧ n ≤ 1024
  · obtain ⟨m, rfl⟩ := Int.eq_ofNat_of_zero_le (show 0 ≤ n by omega)
    have e : groupN (m : Int) = m := by unfold groupN; rw [if_pos h]; rfl
    rw [e]
    refine (locks_yes m w (by omega) (by omega)).mono ?_
    rintro e w' ⟨rfl, hg, hb, hz⟩
    exact ⟨⟨_, _, rfl, hg, by omega, by omega, by omega, by omega⟩, hb⟩
  · have e : groupN n = 0 := by unfold groupN; rw [if_neg h]
    rw [e]
    refine (locks_no n w (by omega)).mono ?_
    rintro e w' ⟨rfl, hg, hb, hz⟩
    exact ⟨⟨_, _, rfl, hg, by omega, by omega, by omega, by omega⟩, hb⟩
theorem ref_New (n : Int) (w : World) : Calls Try.prog 8 #[.int .i64 n] w (RefNew w (groupN n)) := by
  by_cases h : 1 ≤ n ∧ n ≤ 1024
  · obtain ⟨m, rfl⟩ := Int.eq_ofNat_of_zero_le (show 0 ≤ n by omega)
    have e : groupN (m : Int) = m := by unfold groupN; rw [if_pos h]; rfl
    rw [e]
    exact ref_New_yes m w (by omega) (by omega)
  · have e : groupN n = 0 := by unfold groupN; rw [if_neg h]
    rw [e]
    exact ref_New_no n w (by omega)

/-- Where the loop stands: both groups. -/
structure PStand (w1 wr : World) (G B X P Q k : Nat) (L : List LS) : Prop where
  g : GroupIs wr G B L
  x : RefIs wr X P Q (L.map LS.own) (L.map LS.cnt)
  len : L.length ≤ 1024
  acc : ∀ s ∈ L, 0 ≤ s.acc ∧ s.acc ≤ k ∧ 0 ≤ s.cnt ∧ s.cnt ≤ k
  below : Below w1.heap.size w1 wr
  apart : (G ≠ X ∧ G ≠ P ∧ G ≠ Q) ∧ (B ≠ X ∧ B ≠ P ∧ B ≠ Q)
  above : (w1.heap.size ≤ G ∧ w1.heap.size ≤ B) ∧ (w1.heap.size ≤ X ∧ w1.heap.size ≤ P ∧ w1.heap.size ≤ Q)
  lt : (G < wr.heap.size ∧ B < wr.heap.size) ∧ (X < wr.heap.size ∧ P < wr.heap.size ∧ Q < wr.heap.size)
theorem group_Len_q {W : World} {G B : Nat} {L : List LS} (h : GroupIs W G B L) (n : Nat) : Calls Try.prog 9 #[.pointer (some ⟨G, 0, none⟩)] (W.drewN n) fun e w' => e = .returned (.int .i64 (L.length : Int)) ∧ ∃ m, w' = W.drewN m :=
  (group_Len (h.only ((Only.refl (fun _ => False) _).drewN n) (fun h => h) (fun h => h))).mono fun _ _ h => ⟨h.1, n, h.2.symm⟩
theorem group_Len_n {W : World} {G B m : Nat} {L : List LS} (h : GroupIs W G B L) (hm : L.length = m) (n : Nat) : Calls Try.prog 9 #[.pointer (some ⟨G, 0, none⟩)] (W.drewN n) fun e w' => e = .returned (.int .i64 (m : Int)) ∧ ∃ m, w' = W.drewN m := by
  subst hm
  exact group_Len_q h n
/-- What a deed makes of the locks: kept by the document's answer. -/
theorem map_own_set (L : List LS) (i : Nat) (s : LS) : (L.set i s).map LS.own = (L.map LS.own).set i s.own := by rw [List.map_set]
theorem map_cnt_set (L : List LS) (i : Nat) (s : LS) : (L.set i s).map LS.cnt = (L.map LS.cnt).set i s.cnt := by rw [List.map_set]

/-- Where a round stands: both groups, and the deed's own box. -/
structure DStand (w1 wd : World) (G B X P Q k Dd : Nat) (L : List LS) (lk ow : Int) (fr : Bool) : Prop where
  st : PStand w1 wd G B X P Q k L
  d : Blk 33 wd Dd [.int .i64 lk, .int .i64 ow, .bool fr]
  dn : Dd ≠ G ∧ Dd ≠ B ∧ Dd ≠ X ∧ Dd ≠ P ∧ Dd ≠ Q
  dw : w1.heap.size ≤ Dd
theorem onlyDrew (S : Nat → Prop) (w : World) : Only S w w.drew := ⟨rfl, rfl, rfl, Nat.le_refl _, fun _ _ _ => rfl⟩
theorem PStand.below' {w1 wd w' : World} {G B X P Q k : Nat} {L : List LS} (h : PStand w1 wd G B X P Q k L) (hb : Below wd.heap.size wd w') : PStand w1 w' G B X P Q k L := by
  have hz := hb.size
  obtain ⟨⟨l1, l2⟩, l3, l4, l5⟩ := h.lt
  exact ⟨h.g.below hb, h.x.below hb, h.len, h.acc, h.below.trans (hb.mono h.below.size), h.apart, h.above, ⟨⟨by omega, by omega⟩, by omega, by omega, by omega⟩⟩
theorem DStand.below {w1 wd w' : World} {G B X P Q k Dd : Nat} {L : List LS} {lk ow : Int} {fr : Bool} (h : DStand w1 wd G B X P Q k Dd L lk ow fr) (hb : Below wd.heap.size wd w') : DStand w1 w' G B X P Q k Dd L lk ow fr :=
  ⟨h.st.below' hb, h.d.below hb h.d.lt, h.dn, h.dw⟩
theorem DStand.drew {w1 wd : World} {G B X P Q k Dd : Nat} {L : List LS} {lk ow : Int} {fr : Bool} (h : DStand w1 wd G B X P Q k Dd L lk ow fr) : DStand w1 wd.drew G B X P Q k Dd L lk ow fr :=
  h.below ⟨rfl, rfl, rfl, Nat.le_refl _, fun _ _ => rfl⟩
theorem DStand.succ {w1 wd : World} {G B X P Q k Dd : Nat} {L : List LS} {lk ow : Int} {fr : Bool} (h : DStand w1 wd G B X P Q k Dd L lk ow fr) : DStand w1 wd G B X P Q (k + 1) Dd L lk ow fr :=
  ⟨⟨h.st.g, h.st.x, h.st.len, fun s hs => by obtain ⟨h1, h2, h3, h4⟩ := h.st.acc s hs; exact ⟨h1, by omega, h3, by omega⟩, h.st.below, h.st.apart, h.st.above, h.st.lt⟩, h.d, h.dn, h.dw⟩
theorem deed_box {w1 wr : World} {G B X P Q k : Nat} {L : List LS} (h : PStand w1 wr G B X P Q k L) (lk ow : Int) (fr : Bool) :
    ∃ wd Dd, wr.alloc (.cells #[.int .i64 lk, .int .i64 ow, .bool fr] 33) = wd ∧ wr.heap.size = Dd ∧ DStand w1 wd G B X P Q k Dd L lk ow fr := by
  have hz := h.below.size
  obtain ⟨⟨l1, l2⟩, l3, l4, l5⟩ := h.lt
  exact ⟨_, _, rfl, rfl, h.below' ((Below.refl _ _).alloc (Nat.le_refl _) _), Blk.new, ⟨by omega, by omega, by omega, by omega, by omega⟩, hz⟩
/-- Behind the program's own deed. -/
structure Mid (w1 wd w5 : World) (G B X P Q Dd i : Nat) (L : List LS) (lk ow : Int) (fr : Bool) (own acc cnt : Int) : Prop where
  g : GroupIs w5 G B (L.set i ⟨own, acc, cnt⟩)
  x : RefIs w5 X P Q (L.map LS.own) (L.map LS.cnt)
  d : Blk 33 w5 Dd [.int .i64 lk, .int .i64 ow, .bool fr]
  below : Below w1.heap.size w1 w5
  size : wd.heap.size ≤ w5.heap.size
theorem DStand.mid {w1 wd w5 : World} {G B X P Q k Dd i : Nat} {L : List LS} {lk ow : Int} {fr : Bool} {s : LS} {l : List Value} {own acc cnt : Int} (h : DStand w1 wd G B X P Q k Dd L lk ow fr) (hs : L[i]? = some s) (hl : RecRow 3 encL l L) (hne : B ≠ G)
    (ht : LockTo 47 B (i * 3) l own acc cnt wd w5) : Mid w1 wd w5 G B X P Q Dd i L lk ow fr own acc cnt := by
  obtain ⟨_, a1, a2, a3⟩ := h.st.apart
  exact ⟨h.st.g.turn hs hl hne ht, h.st.x.only ht.only (fun e => a1 e.symm) (fun e => a2 e.symm) (fun e => a3 e.symm), h.d.only ht.only h.dn.2.1, Only.below_step h.st.below.size h.st.below ht.only (fun j hj e => by have := h.st.above.1.2; omega), ht.only.size⟩
theorem Mid.done {w1 wd w5 w6 : World} {G B X P Q k Dd i : Nat} {L : List LS} {lk ow : Int} {fr : Bool} {s : LS} {own acc cnt : Int} (m : Mid w1 wd w5 G B X P Q Dd i L lk ow fr own acc cnt) (h : DStand w1 wd G B X P Q k Dd L lk ow fr) (hs : L[i]? = some s)
    (hx : RefIs w6 X P Q ((L.map LS.own).set i own) ((L.map LS.cnt).set i cnt)) (ho : Only (fun j => j = P ∨ j = Q) w5 w6) (h1 : s.acc ≤ acc) (h2 : acc ≤ s.acc + 1) (h3 : s.cnt ≤ cnt) (h4 : cnt ≤ s.cnt + 1) :
    DStand w1 w6 G B X P Q (k + 1) Dd (L.set i ⟨own, acc, cnt⟩) lk ow fr := by
  obtain ⟨⟨g1, g2, g3⟩, b1, b2, b3⟩ := h.st.apart
  obtain ⟨⟨l1, l2⟩, l3, l4, l5⟩ := h.st.lt
  obtain ⟨⟨v1, v2⟩, v3, v4, v5⟩ := h.st.above
  obtain ⟨d1, d2, d3, d4, d5⟩ := h.dn
  have hz := m.size
  have hz' := ho.size
  have hb := h.st.below.size
  refine ⟨⟨m.g.only ho (by omega) (by omega), ?_, by rw [List.length_set]; exact h.st.len, fun x hx' => ?_, Only.below_step (by have := m.below.size; omega) m.below ho (fun j hj e => by omega), h.st.apart, h.st.above, ⟨⟨by omega, by omega⟩, by omega, by omega, by omega⟩⟩, m.d.only ho (by omega), h.dn, h.dw⟩
  · rw [map_own_set, map_cnt_set]; exact hx
  · have hs' := h.st.acc s (List.mem_of_getElem? hs)
    rcases List.mem_or_eq_of_mem_set hx' with hx' | rfl
    · obtain ⟨q1, q2, q3, q4⟩ := h.st.acc x hx'; exact ⟨q1, by omega, q3, by omega⟩
    · obtain ⟨q1, q2, q3, q4⟩ := hs'
      exact ⟨show 0 ≤ acc by omega, show acc ≤ ((k + 1 : Nat) : Int) by omega, show 0 ≤ cnt by omega, show cnt ≤ ((k + 1 : Nat) : Int) by omega⟩
/-- What is read of it. -/
theorem DStand.S {w1 wd : World} {G B X P Q k Dd i : Nat} {L : List LS} {lk ow : Int} {fr : Bool} {s : LS} (h : DStand w1 wd G B X P Q k Dd L lk ow fr) (hs : L[i]? = some s) :
    wd.cell? ⟨Dd, 0, none⟩ = some (.int .i64 lk) ∧ wd.cell? ⟨Dd, 1, none⟩ = some (.int .i64 ow) ∧ wd.cell? ⟨X, 0, none⟩ = some (.slice (some ⟨P, 0, none⟩) L.length L.length) ∧ wd.cell? ⟨X, 1, none⟩ = some (.slice (some ⟨Q, 0, none⟩) L.length L.length) ∧
      wd.cell? ⟨P, i, none⟩ = some (.int .i64 s.own) ∧ wd.cell? ⟨Q, i, none⟩ = some (.int .i64 s.cnt) := by
  obtain ⟨h1, h2, h3, h4, _, _⟩ := h.st.x.reads (i := i) (x := s.own) (y := s.cnt) (by rw [List.getElem?_map, hs]; rfl) (by rw [List.getElem?_map, hs]; rfl)
  rw [List.length_map] at h1 h2
  exact ⟨h.d.at rfl, h.d.at rfl, h1, h2, h3, h4⟩
theorem DStand.D2 {w1 wd : World} {G B X P Q k Dd : Nat} {L : List LS} {lk ow : Int} {fr : Bool} (h : DStand w1 wd G B X P Q k Dd L lk ow fr) :
    wd.cell? ⟨Dd, 0, none⟩ = some (.int .i64 lk) ∧ wd.cell? ⟨Dd, 1, none⟩ = some (.int .i64 ow) := ⟨h.d.at rfl, h.d.at rfl⟩
theorem Mid.D2 {w1 wd w5 : World} {G B X P Q Dd i : Nat} {L : List LS} {lk ow : Int} {fr : Bool} {own acc cnt : Int} (h : Mid w1 wd w5 G B X P Q Dd i L lk ow fr own acc cnt) :
    w5.cell? ⟨Dd, 0, none⟩ = some (.int .i64 lk) ∧ w5.cell? ⟨Dd, 1, none⟩ = some (.int .i64 ow) := ⟨h.d.at rfl, h.d.at rfl⟩
theorem ints_same {u v : Value} {A : List Int} {w : World} (hu : NumsIn w u A) (hv : NumsIn w v A) (hA : A.length ≤ 1000000) :
    Calls Try.prog 18 #[u, v] w fun e w' => e = .returned (.bool true) ∧ Below w.heap.size w w' :=
  (ref_Ints u v A A w hu hv hA hA).mono fun e w' ⟨h1, h2⟩ => ⟨by rw [h1]; simp, h2⟩
theorem heldZ_len (owner : Int) (L : List LS) (h : L.length ≤ 1024) : (heldZ owner (L.map LS.own)).length ≤ 1000000 := by
  unfold heldZ
  split
  · have := heldTo_len owner (L.map LS.own) (L.map LS.own).length
    rw [List.length_map] at this
    rw [List.length_map]
    omega
  · simp
theorem tryC_le (own ow c : Int) : c ≤ tryC own ow c ∧ tryC own ow c ≤ c + 1 := by unfold tryC; split <;> omega
theorem set_at {L : List LS} {i : Nat} {s : LS} (h : L[i]? = some s) (s' : LS) : (L.set i s')[i]? = some s' := by
  rw [List.getElem?_set_self (List.getElem?_eq_some_iff.1 h).1]

end Go.Proofs.Ythhhbcjnihnlmaa
