/- Layer 8 (package lin): each. -/
import Derived.Test.YthngehpmoiojfaaUnlike8
import Derived.Deep.Cut
namespace Go.Proofs.Ythngehpmoiojfaa
open Go.RowKit

/-- How many searches there are at most, with n calls left. -/
def costZ (L : List CallZ) : Nat → List Bool → Nat
  | 0, _ => 1
  | n + 1, D => 1 + ((minZ L D).map fun i => costZ L n (D.set i.toNat true)).sum
/-- What going on comes to: nothing found, and all as it was but for the count; or the rest of an order. -/
def GoTo (res : Option (List Int)) (cnt cost : Nat) (x : Se) (r : Bool) (x' : Se) : Prop :=
  match res with
  | none => r = false ∧ x'.D = x.D ∧ x'.O = x.O ∧ x'.fnd = x.fnd + (cnt : Int) ∧ x'.n ≤ x.n + cost
  | some t => r = true ∧ x'.O = x.O ++ t
section
variable (L : List CallZ) (n : Nat) (D : List Bool) (s : StZ) (res : List Bool → StZ → Option (List Int)) (cnt : List Bool → StZ → Nat)
def stepR (i : Int) : Option (List Int) := if goOk smallM L s i = true then (res (D.set i.toNat true) (goTo smallM L s i)).map (i :: ·) else none
def stepC (i : Int) : Nat := if goOk smallM L s i = true then cnt (D.set i.toNat true) (goTo smallM L s i) else 0
def stepK (i : Int) : Nat := costZ L n (D.set i.toNat true)
end
/-- How it ends. -/
def GoEnd (K : Nat → Prop) (w : World) (B : Nat) (s0 : StZ) (L : List CallZ) (cv mv : Value) (res : Option (List Int)) (cnt cost : Nat) (x : Se) (e : Ending) (w' : World) : Prop :=
  ∃ r x', e = .returned (.bool r) ∧ SeIs K w' B s0 L cv mv x' ∧ Only (fun k => ¬ K k) w w' ∧ GoTo res cnt cost x r x'
/-- What goOn does, with n calls left. -/
def GoOn (f : Nat) (B : Nat) (s0 : StZ) (L : List CallZ) (cv mv : Value) (n c : Nat) (res : List Bool → StZ → Option (List Int)) (cnt : List Bool → StZ → Nat) : Prop :=
  ∀ (K : Nat → Prop) (w : World) (x : Se) (s : StZ), SeIs K w B s0 L cv mv x → nU L x.D = n → x.O.length + n = L.length → StOk c x.O.length s → 0 ≤ x.fnd → x.fnd + (cnt x.D s : Int) ≤ 1000000 → x.n + costZ L n x.D < maxLen →
    Calls Try.prog f #[.pointer (some ⟨B, 0, none⟩), stA s] w fun e w' => GoEnd K w B s0 L cv mv (res x.D s) (cnt x.D s) (costZ L n x.D) x e w'
/-- A slice of places that lies in K. -/
def PlK (K : Nat → Prop) (w : World) (a : Option Addr) (P : List Int) : Prop := ∀ k, k < P.length → ∃ b off, a = some ⟨b, off, none⟩ ∧ K b ∧ w.cell? ⟨b, off + k, none⟩ = some (numV (P.getD k 0))
theorem PlK.only {K S : Nat → Prop} {w w' : World} {a : Option Addr} {P : List Int} (h : PlK K w a P) (ho : Only S w w') (hS : ∀ k, S k → ¬ K k) : PlK K w' a P := fun k hk => by
  obtain ⟨b, off, e, hK, hc⟩ := h k hk
  exact ⟨b, off, e, hK, (World.cell?_of_block (w := w) (ho.block b (cell_lt hc) (fun h => hS b h hK))).trans hc⟩
theorem sum_take {f : Int → Nat} {P : List Int} {k : Nat} (hk : k < P.length) : ((P.take (k + 1)).map f).sum = ((P.take k).map f).sum + f P[k] := by
  rw [List.take_succ_eq_append_getElem hk, List.map_append, List.sum_append]; simp only [List.map_cons, List.map_nil, List.sum_cons, List.sum_nil, Nat.add_zero]
theorem sum_take_le {f : Int → Nat} : ∀ (P : List Int) (k : Nat), ((P.take k).map f).sum ≤ (P.map f).sum
  | [], k => by simp
  | p :: P, 0 => by simp
  | p :: P, k + 1 => by have := sum_take_le (f := f) P k; simp only [List.take_succ_cons, List.map_cons, List.sum_cons]; omega
theorem find_take {f : Int → Option (List Int)} {P : List Int} {k : Nat} (hk : k < P.length) (h : (P.take k).findSome? f = none) : (P.take (k + 1)).findSome? f = f P[k] := by
  rw [List.take_succ_eq_append_getElem hk, List.findSome?_append, h]; simp
theorem find_of_take {f : Int → Option (List Int)} {P : List Int} {k : Nat} {v : List Int} (h : (P.take k).findSome? f = some v) : P.findSome? f = some v := by
  rw [← List.take_append_drop k P, List.findSome?_append, h]; rfl
/-- Ahead of a round of each. -/
structure EInv (K : Nat → Prop) (w wr : World) (B : Nat) (s0 : StZ) (L : List CallZ) (cv mv : Value) (x : Se) (s : StZ) (n : Nat) (res : List Bool → StZ → Option (List Int)) (cnt : List Bool → StZ → Nat) (P : List Int) (k : Nat) (y : Se) : Prop where
  se : SeIs (fun j => K j ∨ j = w.heap.size) wr B s0 L cv mv y
  d : y.D = x.D
  o : y.O = x.O
  f : y.fnd = x.fnd + (((P.take k).map (stepC L x.D s cnt)).sum : Nat)
  n : y.n ≤ x.n + ((P.take k).map (stepK L n x.D)).sum
  no : (P.take k).findSome? (stepR L x.D s res) = none
  only : Only (fun j => ¬ K j) w wr
  box : Blk 40 wr w.heap.size (stV s)
section
variable {K : Nat → Prop} {w wr wx : World} {B : Nat} {s0 : StZ} {L : List CallZ} {cv mv : Value} {x : Se} {s : StZ} {n : Nat} {res : List Bool → StZ → Option (List Int)} {cnt : List Bool → StZ → Nat} {P : List Int} {k : Nat} {y : Se}
theorem EInv.start (h : SeIs K w B s0 L cv mv x) : EInv K w (w.alloc (.cells (stV s).toArray 40)) B s0 L cv mv x s n res cnt P 0 x := by
  refine ⟨(h.alloc _).keep (fun _ => .inl) (fun j hj => hj.imp id fun e => ?_), rfl, rfl, by simp, by simp, by simp, (Only.refl _ w).alloc _, Blk.new⟩
  subst e
  refine ⟨fun e => ?_, fun e => ?_, _, _, Blk.new⟩
  · have := h.blk.lt; omega
  · have := (h.own.lt _ e).2; omega
theorem EInv.skip (h : EInv K w wr B s0 L cv mv x s n res cnt P k y) (hk : k < P.length) (hb : Below wr.heap.size wr wx) (hok : goOk smallM L s P[k] = false) : EInv K w wx B s0 L cv mv x s n res cnt P (k + 1) y := by
  refine ⟨h.se.below hb, h.d, h.o, ?_, ?_, ?_, h.only.trans (Only.of_below hb _), h.box.below hb h.box.lt⟩
  · rw [sum_take hk, h.f]; simp [stepC, hok]
  · rw [sum_take hk]; have := h.n; omega
  · rw [find_take hk h.no]; simp [stepR, hok]
theorem EInv.pre (h : EInv K w wr B s0 L cv mv x s n res cnt P k y) (hk : k < P.length) (hf : x.fnd + ((P.map (stepC L x.D s cnt)).sum : Nat) ≤ 1000000) (hn : x.n + (P.map (stepK L n x.D)).sum < maxLen) (hok : goOk smallM L s P[k] = true) :
    (x.fnd ≤ y.fnd ∧ y.fnd + (cnt (x.D.set P[k].toNat true) (goTo smallM L s P[k]) : Int) ≤ 1000000) ∧ y.n + costZ L n (x.D.set P[k].toNat true) < maxLen := by
  have h1 := sum_take_le (f := stepC L x.D s cnt) P (k + 1)
  have h2 := sum_take_le (f := stepK L n x.D) P (k + 1)
  rw [sum_take hk] at h1 h2
  have h3 := h.f
  have h4 := h.n
  rw [show stepC L x.D s cnt P[k] = cnt (x.D.set P[k].toNat true) (goTo smallM L s P[k]) by simp [stepC, hok]] at h1
  rw [show stepK L n x.D P[k] = costZ L n (x.D.set P[k].toNat true) from rfl] at h2
  omega
/-- The round's own box kept, too. -/
theorem EInv.into (h : EInv K w wr B s0 L cv mv x s n res cnt P k y) {X : Nat} {l : List Value} {t : TypeId} (hb : Below wr.heap.size wr wx) (hX : wr.heap.size ≤ X) (hx : Blk t wx X l) : SeIs (fun j => (K j ∨ j = w.heap.size) ∨ j = X) wx B s0 L cv mv y := by
  refine (h.se.below hb).keep (fun _ => .inl) (fun j hj => hj.imp id fun e => ?_)
  subst e
  refine ⟨fun e => ?_, fun e => ?_, _, _, hx⟩
  · have := h.se.blk.lt; omega
  · have := (h.se.own.lt _ e).2; omega
theorem EInv.leave (h : EInv K w wr B s0 L cv mv x s n res cnt P k y) (h0 : SeIs K w B s0 L cv mv x) {X : Nat} {w5 : World} {z : Se} (hb : Below wr.heap.size wr wx) (h5 : SeIs (fun j => (K j ∨ j = w.heap.size) ∨ j = X) w5 B s0 L cv mv z) (q : Only (fun j => ¬ ((K j ∨ j = w.heap.size) ∨ j = X)) wx w5) :
    Only (fun j => ¬ K j) w w5 ∧ SeIs K w5 B s0 L cv mv z := by
  have q5 : Only (fun j => ¬ K j) w w5 := (h.only.trans (Only.of_below hb _)).trans (q.mono (fun j _ hj hK => hj (.inl (.inl hK))))
  exact ⟨q5, h5.less (fun j hj => .inl (.inl hj)) (h0.calls.only q5 (fun _ h => h))⟩
theorem EInv.turn (h : EInv K w wr B s0 L cv mv x s n res cnt P k y) (hk : k < P.length) {X : Nat} {w5 : World} {z : Se} (hb : Below wr.heap.size wr wx) (h5 : SeIs (fun j => (K j ∨ j = w.heap.size) ∨ j = X) w5 B s0 L cv mv z) (q : Only (fun j => ¬ ((K j ∨ j = w.heap.size) ∨ j = X)) wx w5)
    (hok : goOk smallM L s P[k] = true) (hr : res (x.D.set P[k].toNat true) (goTo smallM L s P[k]) = none) (hd : z.D = x.D) (ho : z.O = x.O) (hf : z.fnd = y.fnd + (cnt (x.D.set P[k].toNat true) (goTo smallM L s P[k]) : Int)) (hn : z.n ≤ y.n + costZ L n (x.D.set P[k].toNat true)) :
    EInv K w w5 B s0 L cv mv x s n res cnt P (k + 1) z := by
  refine ⟨h5.less (fun j hj => .inl hj) ((h.se.below hb).calls.only q (fun j hj hK => hj (.inl hK))), hd, ho, ?_, ?_, ?_, (h.only.trans (Only.of_below hb _)).trans (q.mono (fun j _ hj hK => hj (.inl (.inl hK)))), ?_⟩
  · rw [sum_take hk, hf, h.f]; simp [stepC, hok]; omega
  · rw [sum_take hk]; have := h.n; unfold stepK at *; omega
  · rw [find_take hk h.no]; simp [stepR, hok, hr]
  · exact (h.box.below hb h.box.lt).only q (fun hj => hj (.inl (.inr rfl)))
end
section
variable {K : Nat → Prop} {w : World} {B : Nat} {s0 : StZ} {L : List CallZ} {cv mv : Value} {x : Se}
/-- A new box, kept. -/
theorem SeIs.boxed (h : SeIs K w B s0 L cv mv x) {l : List Value} {t : TypeId} : SeIs (fun j => K j ∨ j = w.heap.size) (w.alloc (.cells l.toArray t)) B s0 L cv mv x := by
  refine (h.alloc _).keep (fun _ => .inl) (fun j hj => hj.imp id fun e => ?_)
  subst e
  refine ⟨fun e => ?_, fun e => ?_, _, _, Blk.new⟩
  · have := h.blk.lt; omega
  · have := (h.own.lt _ e).2; omega
/-- New places, kept. -/
theorem SeIs.places {w2 : World} {r : Value} {P : List Int} (h : SeIs K w B s0 L cv mv x) (hb : Below w.heap.size w w2) (hr : w2.ownsRow w.heap.size 3 1 r P.length (P.map numV)) : (∃ pa cap, r = .slice pa P.length cap ∧ PlK (fun k => K k ∨ r.ownBlock = some k) w2 pa P) ∧ SeIs (fun k => K k ∨ r.ownBlock = some k) w2 B s0 L cv mv x := by
  constructor
  · obtain ⟨a, c, e, hc⟩ := NumsIn.form (SliceK.of_own hr)
    refine ⟨a, c, e, fun k hk => ?_⟩
    obtain ⟨b, off, ea, _, hcc⟩ := hc k hk
    exact ⟨b, off, ea, .inr (by rw [e, ea]; rfl), hcc⟩
  · refine (h.below hb).keep (fun _ => .inl) (fun k hk => hk.imp id fun e => ?_)
    obtain ⟨l, cap, _, hle, hB, _⟩ := own_heap hr e
    exact ⟨fun e => by have := h.blk.lt; omega, fun e => by have := (h.own.lt _ e).2; omega, _, _, hB⟩
theorem GoEnd.less {K' : Nat → Prop} {w2 w' : World} {res : Option (List Int)} {cnt cost : Nat} {e : Ending} (h0 : SeIs K w B s0 L cv mv x) (h : GoEnd K' w2 B s0 L cv mv res cnt cost x e w') (hK : ∀ k, K k → K' k) (q : Only (fun k => ¬ K k) w w2) : GoEnd K w B s0 L cv mv res cnt cost x e w' := by
  obtain ⟨r, x', he, hs, ho, hg⟩ := h
  have q' : Only (fun k => ¬ K k) w w' := q.trans (ho.mono (fun k _ hk hK' => hk (hK k hK')))
  exact ⟨r, x', he, hs.less hK (h0.calls.only q' (fun _ h => h)), q', hg⟩
end
theorem min_places {L : List CallZ} {D : List Bool} : ∀ y ∈ minZ L D, ∃ i : Nat, y = (i : Int) ∧ i < L.length ∧ doneB D i = false := fun y hy => by
  obtain ⟨i, e, hf⟩ := minZ_mem.1 hy
  exact ⟨i, e, hf.lt, hf.un⟩
theorem min_len (L : List CallZ) (D : List Bool) : (minZ L D).length ≤ L.length := by rw [min_same]; exact refMin_len L D L.length
theorem cost_sum (L : List CallZ) (n : Nat) (D : List Bool) : costZ L (n + 1) D = 1 + ((minZ L D).map (stepK L n D)).sum := rfl
theorem nU_next {L : List CallZ} {D : List Bool} {n : Nat} (hD : L.length ≤ D.length) (hn : nU L D = n + 1) {y : Int} (hy : y ∈ minZ L D) : nU L (D.set y.toNat true) = n := by
  obtain ⟨i, rfl, hi, hd⟩ := min_places y hy
  have := nU_set (L := L) hD hi hd
  rw [Int.toNat_natCast]
  omega
theorem sum_cong {f g : Int → Nat} : ∀ {P : List Int}, (∀ y ∈ P, f y = g y) → (P.map f).sum = (P.map g).sum
  | [], _ => rfl
  | p :: P, h => by
    simp only [List.map_cons, List.sum_cons]
    rw [h p (by simp), sum_cong (fun y hy => h y (by simp [hy]))]
/-- What each's round reads. -/
def EaS (w : World) (B X b off c i n : Nat) (s0 s : StZ) (y : CallZ) : Prop := w.rangeAt B 0 (mV s0) ∧ w.rangeAt X 0 (stV s) ∧ w.cell? ⟨B, 4, none⟩ = some (.slice (some ⟨b, off, none⟩) n c) ∧ w.rangeAt b (off + i * 15) (callV y)
theorem EaS.keep {N : Nat} {w w' : World} {B X b off c i n : Nat} {s0 s : StZ} {y : CallZ} (h : EaS w B X b off c i n s0 s y) (hN : w.heap.size = N) (hb : Below N w w') : EaS w' B X b off c i n s0 s y := by
  subst hN
  obtain ⟨h1, h2, h3, h4⟩ := h
  have R : ∀ {b o : Nat} {l : List Value}, w.rangeAt b o l → w'.rangeAt b o l := fun h k v hv => (hb.cell (p := ⟨_, _, none⟩) (cell_lt (h k v hv))).trans (h k v hv)
  exact ⟨R h1, R h2, (hb.cell (cell_lt h3)).trans h3, R h4⟩
theorem st_wrote {w w' : World} {X : Nat} {s : StZ} {l : List Value} (hl : l.length = 2) (h : Blk 40 w X l) (e : w.setCells X 0 (stV s) = w') : Blk 40 w' X (stV s) ∧ Only (· = X) w w' := by
  refine ⟨?_, e ▸ only_setCells (S := (· = X)) rfl _ _ _ _ (Only.refl _ _)⟩
  rw [← e]
  have := Blk.setCells (stV s) 0 _ _ h
  match l, hl with
  | [_, _], _ => exact this
theorem mV_at {s0 : StZ} {cv mv : Value} {x : Se} {j : Nat} {v : Value} (h : (mV s0)[j]? = some v) : (seV s0 cv mv x)[j]? = some v := by
  unfold seV
  rw [List.getElem?_append_left (List.getElem?_eq_some_iff.1 h).1]
  exact h
theorem set_back {D : List Bool} {i : Nat} (h : doneB D i = false) : (D.set i true).set i false = D := by
  rw [List.set_set]
  refine List.ext_getElem (by simp) fun k h1 h2 => ?_
  rw [List.getElem_set]
  split
  · rename_i e
    subst e
    unfold doneB at h
    rw [List.getD_eq_getElem?_getD, List.getElem?_eq_getElem h2] at h
    exact h.symm
  · rfl
/-- Behind the call in a round of each. -/
structure EMid (wr wx : World) (X : Nat) (s' : StZ) : Prop where
  le : wr.heap.size ≤ X
  blk : Blk 40 wx X (stV s')
  b : Below wr.heap.size wr wx

set_option maxHeartbeats 4000000 in
theorem se_each_find {K : Nat → Prop} {w : World} {B : Nat} {s0 : StZ} {L : List CallZ} {cv mv : Value} {x : Se} {s : StZ} {n c cap : Nat} {res : List Bool → StZ → Option (List Int)} {cnt : List Bool → StZ → Nat} {P : List Int} {pa : Option Addr} (h : SeIs K w B s0 L cv mv x) (hgo : GoOn 20 B s0 L cv mv n c res cnt)
    (hn : nU L x.D = n + 1) (hO : x.O.length + (n + 1) = L.length) (hL : L.length ≤ 24) (hs : StOk c x.O.length s) (hp : ∀ y ∈ L, y.op.p.size ≤ c) (hP : ∀ y ∈ P, ∃ i : Nat, y = (i : Int) ∧ i < L.length ∧ doneB x.D i = false) (hPl : P.length ≤ 1000) (hpl : PlK K w pa P)
    (hf0 : 0 ≤ x.fnd) (hf : x.fnd + ((P.map (stepC L x.D s cnt)).sum : Nat) ≤ 1000000) (hk : x.n + (P.map (stepK L n x.D)).sum < maxLen) :
    Calls Try.prog 32 #[.pointer (some ⟨B, 0, none⟩), stA s, .slice pa P.length cap, .func (.func 20) #[.pointer (some ⟨B, 0, none⟩)] #[]] w fun e w' =>
      GoEnd K w B s0 L cv mv (P.findSome? (stepR L x.D s res)) (P.map (stepC L x.D s cnt)).sum (P.map (stepK L n x.D)).sum x e w' := by
  have HH := Lib.hid h
  have HG := Lib.hid hgo
  have HN := Lib.hid hn
  have HO := Lib.hid hO
  have HS := Lib.hid hs
  have Hp := Lib.hid hp
  have HP := Lib.hid hP
  have HPL := Lib.hid hpl
  have HF := Lib.hid hf
  have HK := Lib.hid hk
  have n1 : Hid (-100000000 ≤ s.n ∧ s.n ≤ 100000000) := Lib.hid ⟨by have := hs.lo; omega, by have := hs.hi; omega⟩
  clear h hgo hn hO hs hp hP hpl hf hk
  go_enter Try.func32, Try.ntmps32
  go_wp2
  go_loopw [15] (fun q wr => ∃ (k : Nat) (y : Se), k ≤ P.length ∧ q = .int .i64 k ∧ Hid (EInv K w wr B s0 L cv mv x s n res cnt P k y)) (fun q _ => P.length - (intOf q).toNat)
  case atStart => exact ⟨0, x, Nat.zero_le _, rfl, Lib.hid (EInv.start HH.out)⟩
  case round =>
    obtain ⟨k, y, hkl, rfl, E⟩ := hrel
    by_cases hlt : k < P.length
    · obtain ⟨b0, off0, rfl, hK0, hc0⟩ := (HPL.out.only E.out.only (fun _ h => h)) k hlt
      obtain ⟨i, hi, hil, hid⟩ := HP.out (P.getD k 0) (by rw [getD_at hlt]; exact List.getElem_mem hlt)
      have EI := Lib.hid (show P[k] = (i : Int) by rw [← getD_at hlt, hi])
      rw [hi] at hc0
      clear hK0 hi
      obtain ⟨a, c', rfl, hr, hck⟩ := E.out.se.calls
      obtain ⟨b, off, rfl, hb, hri⟩ := hr.range hil
      have hA := lin_answers s0 s (atZ L (i : Int)) n1.out.1 n1.out.2
      have HOP := Lib.hid (Hp.out (atZ L (i : Int)) (by rw [atZ_nat hil]; exact List.getElem_mem hil))
      rw [← atZ_nat hil] at hri
      have Gk := Lib.hid (show goOk smallM L s (i : Int) = decide ((doZ s (atZ L (i : Int)).op).2 = (atZ L (i : Int)).an) ∧ goTo smallM L s (i : Int) = (doZ s (atZ L (i : Int)).op).1 from ⟨rfl, rfl⟩)
      generalize atZ L (i : Int) = cc at *
      generalize hdo : doZ s cc.op = dd at *
      obtain ⟨s', a'⟩ := dd
      simp only at hA Gk
      have HDO := Lib.hid hdo
      clear hdo
      generalize decide (a' = cc.an) = ok at *
      have E0 : Hid (EaS wr.drew B w.heap.size b off c' i L.length s0 s cc) := Lib.hid ⟨rangeAt_sub (o := 0) (blk_range E.out.se.blk) (fun j v hv => by rw [Nat.zero_add]; exact mV_at hv), blk_range E.out.box, E.out.se.callsAt, hri⟩
      have HD := Lib.hid hid
      have hi' : (i : Int) < (L.length : Int) := by omega
      have hdr : wr.drew.heap.size = wr.heap.size := rfl
      clear hr hck hri hid
      go_upto_region 4 with fail
      go_cut [11, 12] from 16 to 46 (fun s11 s12 wx => ∃ X : Nat, s11 = .pointer (some ⟨X, 0, none⟩) ∧ s12 = .bool ok ∧ Hid (EMid wr wx X s'))
      case first =>
        refine wp_region_noPanic ?_
        refine wp_region_held_drew (S := (fun w' => w'.rangeAt B 0 (mV s0) ∧ w'.rangeAt w.heap.size 0 (stV s) ∧ w'.cell? ⟨B, 4, none⟩ = some (.slice (some ⟨b, off, none⟩) L.length c') ∧ w'.rangeAt b (off + i * 15) (callV cc))) (by kernel_rfl) ?_ (fun hHeld => ?_)
        · first | exact E0.out.keep rfl G6.out | exact E0.out
        refine wpAnyH_take (i := 0) (oi := ⟨some 20, _, _, _, _, _⟩) (v := ?_) rfl (by kernel_rfl) (by kernel_rfl) (by kernel_rfl) (fun _ _ _ h => h) (Or.inl ⟨by rfl, ?_⟩) (by assumption) ?_
        rotate_left
        · (intro w hSw; (try dsimp only at hSw); go_simp; try with_reducible rfl)
        try simp only [Act.put, List.setIfInBounds_toArray, List.set_cons_zero, List.set_cons_succ]
        refine wpAnyH_take (i := 1) (oi := ⟨some 21, _, _, _, _, _⟩) (v := ?_) rfl (by kernel_rfl) (by kernel_rfl) (by kernel_rfl) (fun _ _ _ h => h) (Or.inl ⟨by rfl, ?_⟩) (by assumption) ?_
        rotate_left
        · (intro w hSw; (try dsimp only at hSw); go_simp; try with_reducible rfl)
        try simp only [Act.put, List.setIfInBounds_toArray, List.set_cons_zero, List.set_cons_succ]
        refine wpAnyH_take (i := 2) (oi := ⟨some 22, _, _, _, _, _⟩) (v := ?_) rfl (by kernel_rfl) (by kernel_rfl) (by kernel_rfl) (fun _ _ _ h => h) (Or.inl ⟨by rfl, ?_⟩) (by assumption) ?_
        rotate_left
        · (intro w hSw; (try dsimp only at hSw); go_simp; try with_reducible rfl)
        try simp only [Act.put, List.setIfInBounds_toArray, List.set_cons_zero, List.set_cons_succ]
        refine wpAnyH_take (i := 3) (oi := ⟨some 23, _, _, _, _, _⟩) (v := mA s0) rfl (by kernel_rfl) (by kernel_rfl) (by kernel_rfl) (fun _ _ _ h => h) (yieldsIf_load_mid (by rfl) 44 _ rfl B 0 rfl (mV s0) _ (fun w h => h.1) Try.underlying44 rfl (by kernel_rfl)) (by assumption) ?_
        try simp only [Act.put, List.setIfInBounds_toArray, List.set_cons_zero, List.set_cons_succ]
        refine wpAnyH_take (i := 4) (oi := ⟨some 24, _, _, _, _, _⟩) (v := stA s) rfl (by kernel_rfl) (by kernel_rfl) (by kernel_rfl) (fun _ _ _ h => h) (yieldsIf_load_mid (by rfl) 40 _ rfl w.heap.size 0 rfl (stV s) _ (fun w h => h.2.1) Try.underlying40 rfl (by kernel_rfl)) (by assumption) ?_
        try simp only [Act.put, List.setIfInBounds_toArray, List.set_cons_zero, List.set_cons_succ]
        refine wpAnyH_take (i := 5) (oi := ⟨some 25, _, _, _, _, _⟩) (v := ?_) rfl (by kernel_rfl) (by kernel_rfl) (by kernel_rfl) (fun _ _ _ h => h) (Or.inl ⟨by rfl, ?_⟩) (by assumption) ?_
        rotate_left
        · (intro w hSw; (try dsimp only at hSw); go_simp; try with_reducible rfl)
        try simp only [Act.put, List.setIfInBounds_toArray, List.set_cons_zero, List.set_cons_succ]
        refine wpAnyH_take (i := 6) (oi := ⟨some 26, _, _, _, _, _⟩) (v := ?_) rfl (by kernel_rfl) (by kernel_rfl) (by kernel_rfl) (fun _ _ _ h => h) (Or.inl ⟨by rfl, ?_⟩) (by assumption) ?_
        rotate_left
        · (intro w hSw; (try dsimp only at hSw); go_simp; try with_reducible rfl)
        try simp only [Act.put, List.setIfInBounds_toArray, List.set_cons_zero, List.set_cons_succ]
        refine wpAnyH_take (i := 7) (oi := ⟨some 27, _, _, _, _, _⟩) (v := ?_) rfl (by kernel_rfl) (by kernel_rfl) (by kernel_rfl) (fun _ _ _ h => h) (Or.inl ⟨by rfl, ?_⟩) (by assumption) ?_
        rotate_left
        · (intro w hSw; (try dsimp only at hSw); go_simp; try with_reducible rfl)
        try simp only [Act.put, List.setIfInBounds_toArray, List.set_cons_zero, List.set_cons_succ]
        refine wpAnyH_take (i := 8) (oi := ⟨some 28, _, _, _, _, _⟩) (v := ?_) rfl (by kernel_rfl) (by kernel_rfl) (by kernel_rfl) (fun _ _ _ h => h) (Or.inl ⟨by rfl, ?_⟩) (by assumption) ?_
        rotate_left
        · (intro w hSw; (try dsimp only at hSw); go_simp; try with_reducible rfl)
        try simp only [Act.put, List.setIfInBounds_toArray, List.set_cons_zero, List.set_cons_succ]
        refine wpAnyH_take (i := 9) (oi := ⟨some 29, _, _, _, _, _⟩) (v := ?_) rfl (by kernel_rfl) (by kernel_rfl) (by kernel_rfl) (fun _ _ _ h => h) (Or.inl ⟨by rfl, ?_⟩) (by assumption) ?_
        rotate_left
        · (intro w hSw; (try dsimp only at hSw); go_simp; try with_reducible rfl)
        try simp only [Act.put, List.setIfInBounds_toArray, List.set_cons_zero, List.set_cons_succ]
        refine wpAnyH_take (i := 10) (oi := ⟨some 30, _, _, _, _, _⟩) (v := ?_) rfl (by kernel_rfl) (by kernel_rfl) (by kernel_rfl) (fun _ _ _ h => h) (Or.inl ⟨by rfl, ?_⟩) (by assumption) ?_
        rotate_left
        · (intro w hSw; (try dsimp only at hSw); go_simp; try with_reducible rfl)
        try simp only [Act.put, List.setIfInBounds_toArray, List.set_cons_zero, List.set_cons_succ]
        refine wpAnyH_take (i := 11) (oi := ⟨some 31, _, _, _, _, _⟩) (v := callA cc) rfl (by kernel_rfl) (by kernel_rfl) (by kernel_rfl) (fun _ _ _ h => h) (yieldsIf_load_mid (by rfl) 34 _ rfl b (off + i * 15) rfl (callV cc) _ (fun w h => h.2.2.2) Try.underlying34 rfl (by kernel_rfl)) (by assumption) ?_
        try simp only [Act.put, List.setIfInBounds_toArray, List.set_cons_zero, List.set_cons_succ]
        refine wpAnyH_ready (rs := [12, 16]) (by kernel_rfl) (by simp) ?_
        refine AllReadyH.cons (o := ⟨some 32, _, _, _, _, _⟩) rfl (fun K hK => ?_) (AllReadyH.cons (o := ⟨some 11, _, _, _, _, _⟩) rfl (fun K hK => ?_) AllReadyH.nil)
        · go_simp
          refine (hA _).mono ?_
          rintro e w6 ⟨rfl, hb6⟩
          have G6 := Lib.hid (hb6)
          clear hb6
          go_wp2_with fail
          refine hK.out _ _ ?_ (fun hHeldX => ?_)
          · first | exact E0.out.keep rfl G6.out | exact E0.out
          clear hK K hHeld
          rename _ => hHeld
          try simp only [Act.put, List.setIfInBounds_toArray, List.set_cons_zero, List.set_cons_succ]
          refine wpAnyH_take (i := 13) (oi := ⟨some 19, _, _, _, _, _⟩) (v := ?_) rfl (by kernel_rfl) (by kernel_rfl) (by kernel_rfl) (fun _ _ _ h => h) (Or.inl ⟨by rfl, ?_⟩) (by assumption) ?_
          rotate_left
          · (intro w hSw; (try dsimp only at hSw); go_simp; try with_reducible rfl)
          try simp only [Act.put, List.setIfInBounds_toArray, List.set_cons_zero, List.set_cons_succ]
          refine wpAnyH_take (i := 14) (oi := ⟨some 33, _, _, _, _, _⟩) (v := ?_) rfl (by kernel_rfl) (by kernel_rfl) (by kernel_rfl) (fun _ _ _ h => h) (Or.inl ⟨by rfl, ?_⟩) (by assumption) ?_
          rotate_left
          · (intro w hSw; (try dsimp only at hSw); go_simp; try with_reducible rfl)
          try simp only [Act.put, List.setIfInBounds_toArray, List.set_cons_zero, List.set_cons_succ]
          refine wpAnyH_take (i := 15) (oi := ⟨some 34, _, _, _, _, _⟩) (v := ?_) rfl (by kernel_rfl) (by kernel_rfl) (by kernel_rfl) (fun _ _ _ h => h) (Or.inl ⟨by rfl, ?_⟩) (by assumption) ?_
          rotate_left
          · (intro w hSw; (try dsimp only at hSw); go_simp; try with_reducible rfl)
          try simp only [Act.put, List.setIfInBounds_toArray, List.set_cons_zero, List.set_cons_succ]
          refine wpAnyH_ready (rs := [16]) (by kernel_rfl) (by simp) ?_
          refine AllReadyH.cons (o := ⟨some 11, _, _, _, _, _⟩) rfl (fun K hK => ?_) AllReadyH.nil
          go_simp
          refine hK.out _ _ ?_ (fun hHeldX => ?_)
          · exact E0.out.keep rfl (G6.out.alloc G6.out.size _)
          clear hK K hHeld
          rename _ => hHeld
          try simp only [Act.put, List.setIfInBounds_toArray, List.set_cons_zero, List.set_cons_succ]
          refine wpAnyH_ready (rs := [17]) (by kernel_rfl) (by simp) ?_
          refine AllReadyH.cons (o := ⟨none, _, _, _, _, _⟩) rfl (fun K hK => ?_) AllReadyH.nil
          have T7 := Lib.hid (Blk.new (W := w6) (t := 40) (l := [Value.int .i64 0, Value.string { data := #[] }]))
          refine step_store_mid rfl 40 (.tmp 11) (.tmp 33) rfl w6.heap.size 0 (stV s').toArray rfl rfl (blk_there T7.out (o := 0) (m := 2) (by decide)) (by kernel_rfl) (stV_one _) ?_
          obtain ⟨w7, e7⟩ : ∃ w7, (w6.alloc (.cells #[Value.int .i64 0, Value.string { data := #[] }] 40)).setCells w6.heap.size 0 (stV s') = w7 := ⟨_, rfl⟩
          rw [show (stV s').toArray.toList = stV s' from rfl, e7]
          obtain ⟨b7, o7⟩ := st_wrote rfl T7.out e7
          have B7 := Lib.hid b7
          have G7 := Lib.hid ((G6.out.alloc G6.out.size (.cells #[Value.int .i64 0, Value.string { data := #[] }] 40)).trans (o7.below (by have := G6.out.size; simp at this ⊢; omega) (by intro j hj e; have := G6.out.size; simp at this; omega)))
          clear e7 b7 o7
          refine hK.out _ _ ?_ (fun hHeldX => ?_)
          · exact E0.out.keep rfl G7.out
          clear hK K hHeld
          rename _ => hHeld
          simp only [Act.put]
          refine wpAnyH_take (i := 18) (oi := ⟨some 12, _, _, _, _, _⟩) (v := ?_) rfl (by kernel_rfl) (by kernel_rfl) (by kernel_rfl) (fun _ _ _ h => h) (Or.inl ⟨by rfl, ?_⟩) (by assumption) ?_
          rotate_left
          · (intro w hSw; (try dsimp only at hSw); go_simp; try with_reducible rfl)
          try simp only [Act.put, List.setIfInBounds_toArray, List.set_cons_zero, List.set_cons_succ]
          refine wpAnyH_done (by kernel_rfl) ?_ _
          refine NoPanic.normal ?_
          go_wp2_with fail
          go_meet
          case rel => exact ⟨_, rfl, rfl, Lib.hid ⟨by have := G6.out.size; simp at this ⊢; try omega, B7.out, (below_draws (Below.refl _ wr) 1).trans G7.out⟩⟩
        · go_simp
          refine hK.out _ _ ?_ (fun hHeldX => ?_)
          · exact E0.out.keep rfl ((Below.refl _ _).alloc (Nat.le_refl _) _)
          clear hK K hHeld
          rename _ => hHeld
          try simp only [Act.put, List.setIfInBounds_toArray, List.set_cons_zero, List.set_cons_succ]
          refine wpAnyH_ready (rs := [12]) (by kernel_rfl) (by simp) ?_
          refine AllReadyH.cons (o := ⟨some 32, _, _, _, _, _⟩) rfl (fun K hK => ?_) AllReadyH.nil
          go_simp
          refine (hA _).mono ?_
          rintro e w6 ⟨rfl, hb6⟩
          have G5 := Lib.hid hb6
          have G6 := Lib.hid (((Below.refl wr.heap.size wr.drew).alloc (Nat.le_refl _) _).trans (hb6.mono (by simp)))
          clear hb6
          go_wp2_with fail
          refine hK.out _ _ ?_ (fun hHeldX => ?_)
          · first | exact E0.out.keep rfl G6.out | exact E0.out
          clear hK K hHeld
          rename _ => hHeld
          try simp only [Act.put, List.setIfInBounds_toArray, List.set_cons_zero, List.set_cons_succ]
          refine wpAnyH_take (i := 13) (oi := ⟨some 19, _, _, _, _, _⟩) (v := ?_) rfl (by kernel_rfl) (by kernel_rfl) (by kernel_rfl) (fun _ _ _ h => h) (Or.inl ⟨by rfl, ?_⟩) (by assumption) ?_
          rotate_left
          · (intro w hSw; (try dsimp only at hSw); go_simp; try with_reducible rfl)
          try simp only [Act.put, List.setIfInBounds_toArray, List.set_cons_zero, List.set_cons_succ]
          refine wpAnyH_take (i := 14) (oi := ⟨some 33, _, _, _, _, _⟩) (v := ?_) rfl (by kernel_rfl) (by kernel_rfl) (by kernel_rfl) (fun _ _ _ h => h) (Or.inl ⟨by rfl, ?_⟩) (by assumption) ?_
          rotate_left
          · (intro w hSw; (try dsimp only at hSw); go_simp; try with_reducible rfl)
          try simp only [Act.put, List.setIfInBounds_toArray, List.set_cons_zero, List.set_cons_succ]
          refine wpAnyH_take (i := 15) (oi := ⟨some 34, _, _, _, _, _⟩) (v := ?_) rfl (by kernel_rfl) (by kernel_rfl) (by kernel_rfl) (fun _ _ _ h => h) (Or.inl ⟨by rfl, ?_⟩) (by assumption) ?_
          rotate_left
          · (intro w hSw; (try dsimp only at hSw); go_simp; try with_reducible rfl)
          try simp only [Act.put, List.setIfInBounds_toArray, List.set_cons_zero, List.set_cons_succ]
          refine wpAnyH_ready (rs := [17]) (by kernel_rfl) (by simp) ?_
          refine AllReadyH.cons (o := ⟨none, _, _, _, _, _⟩) rfl (fun K hK => ?_) AllReadyH.nil
          have T7 := Lib.hid ((Blk.newN (n := wr.heap.size) (by rfl) (W := wr.drew) (t := 40) (l := [Value.int .i64 0, Value.string { data := #[] }])).below G5.out (by simp))
          refine step_store_mid rfl 40 (.tmp 11) (.tmp 33) rfl wr.heap.size 0 (stV s').toArray rfl rfl (blk_there T7.out (o := 0) (m := 2) (by decide)) (by kernel_rfl) (stV_one _) ?_
          obtain ⟨w7, e7⟩ : ∃ w7, (w6).setCells wr.heap.size 0 (stV s') = w7 := ⟨_, rfl⟩
          rw [show (stV s').toArray.toList = stV s' from rfl, e7]
          obtain ⟨b7, o7⟩ := st_wrote rfl T7.out e7
          have B7 := Lib.hid b7
          have G7 := Lib.hid (G6.out.trans (o7.below (by have := G6.out.size; simp at this ⊢; omega) (by intro j hj e; have := G6.out.size; simp at this; omega)))
          clear e7 b7 o7
          refine hK.out _ _ ?_ (fun hHeldX => ?_)
          · exact E0.out.keep rfl G7.out
          clear hK K hHeld
          rename _ => hHeld
          simp only [Act.put]
          refine wpAnyH_take (i := 18) (oi := ⟨some 12, _, _, _, _, _⟩) (v := ?_) rfl (by kernel_rfl) (by kernel_rfl) (by kernel_rfl) (fun _ _ _ h => h) (Or.inl ⟨by rfl, ?_⟩) (by assumption) ?_
          rotate_left
          · (intro w hSw; (try dsimp only at hSw); go_simp; try with_reducible rfl)
          try simp only [Act.put, List.setIfInBounds_toArray, List.set_cons_zero, List.set_cons_succ]
          refine wpAnyH_done (by kernel_rfl) ?_ _
          refine NoPanic.normal ?_
          go_wp2_with fail
          go_meet
          case rel => exact ⟨_, rfl, rfl, Lib.hid ⟨by have := G6.out.size; simp at this ⊢; try omega, B7.out, (below_draws (Below.refl _ wr) 1).trans G7.out⟩⟩
      case rest =>
        obtain ⟨X, rfl, rfl, M⟩ := hcut
        cases hok : ok
        · subst hok
          go_wp2
          go_roundw
          case rel => exact ⟨k + 1, y, by omega, by go_num, Lib.hid (E.out.skip hlt M.out.b (by rw [EI.out]; exact Gk.out.1))⟩
          case measure => simp [intOf]; omega
        · subst hok
          have I := Lib.hid (E.out.into M.out.b M.out.le M.out.blk)
          go_wp2_with fail
          refine (se_take I.out (i := i) (by omega) (by rw [E.out.o]; have := HO.out; omega)).mono ?_
          rintro e w3 ⟨rfl, ⟨ov3, h3⟩, q3⟩
          have H3 := Lib.hid h3
          have Q3 := Lib.hid q3
          have R3 := Lib.hid (blk_range (M.out.blk.only q3 (fun h => h (.inr rfl))))
          clear h3 q3
          go_wp2_with (with_reducible show wpList _ _ _ (⟨some 41, _, _, _, _, _⟩ :: _) _ _; refine wpList_load_mid rfl 40 _ rfl X 0 rfl (stV s') _ R3.out Try.underlying40 rfl (by kernel_rfl) ?_)
          obtain ⟨yo, yD, yO, yf, yn⟩ := y
          have ed := E.out.d
          have eo := E.out.o
          simp only at ed eo
          subst ed eo
          obtain ⟨⟨p0, p1⟩, p2⟩ := E.out.pre hlt HF.out HK.out (by rw [EI.out]; exact Gk.out.1)
          rw [EI.out, Gk.out.2, Int.toNat_natCast] at p1
          rw [EI.out, Int.toNat_natCast] at p2
          have hU : nU L (x.D.set i true) = n := by have := nU_set (L := L) (D := x.D) (by rw [HH.out.dl]; exact hL) hil HD.out; have := HN.out; omega
          have hS : StOk c (x.O ++ [(i : Int)]).length s' := by have := HS.out.step HOP.out; rw [HDO.out] at this; simpa using this
          have hO2 : (x.O ++ [(i : Int)]).length + n = L.length := by have := HO.out; simp; omega
          refine (HG.out _ w3 _ s' H3.out hU hO2 hS (Int.le_trans hf0 p0) p1 p2).mono ?_
          rintro e w4 ⟨r, ⟨o4, D4, O4, f4, n4⟩, rfl, h4, q4, g4⟩
          have Q4 := Lib.hid (Q3.out.trans q4)
          have H4 := Lib.hid h4
          clear h4 q4 p0 p1 p2 hU hS hO2
          simp only at g4
          cases hres : res (x.D.set i true) s' with
          | none =>
            rw [hres] at g4
            obtain ⟨rfl, e1, e2, e3, e4⟩ := g4
            simp only at e1 e2 e3 e4
            subst e1 e2
            have HR := Lib.hid hres
            have J := Lib.hid (And.intro e3 e4)
            clear e3 e4 hres
            go_wp2_with fail
            refine (se_giveBack H4.out (i := i) (by omega) (by have := HO.out; omega)).mono ?_
            rintro e w5 ⟨rfl, ⟨ov5, h5⟩, q5⟩
            rw [set_back HD.out] at h5
            have H5 := Lib.hid h5
            have Q5 := Lib.hid (Q4.out.trans q5)
            clear h5 q5
            go_wp2
            go_roundw
            case rel => exact ⟨k + 1, _, by omega, by go_num, Lib.hid (E.out.turn hlt M.out.b H5.out Q5.out (by rw [EI.out]; exact Gk.out.1) (by rw [EI.out, Gk.out.2]; exact HR.out) rfl rfl (by rw [EI.out, Gk.out.2]; exact J.out.1) (by rw [EI.out]; exact J.out.2))⟩
            case measure => simp [intOf]; omega
          | some t =>
            rw [hres] at g4
            obtain ⟨rfl, e1⟩ := g4
            simp only at e1
            have J := Lib.hid (show P.findSome? (stepR L x.D s res) = some ((i : Int) :: t) from find_of_take (k := k + 1) (by
              rw [find_take hlt E.out.no, EI.out]
              unfold stepR
              rw [if_pos Gk.out.1, Gk.out.2, Int.toNat_natCast, hres]
              rfl))
            have J1 := Lib.hid e1
            clear hres e1
            go_wp2
            go_ret
            have lv := E.out.leave HH.out M.out.b H4.out Q4.out
            exact ⟨true, _, rfl, lv.2, lv.1, by rw [J.out]; exact ⟨rfl, by rw [J1.out, List.append_assoc]; rfl⟩⟩
    · obtain rfl : k = P.length := by omega
      go_wp2
      go_ret
      refine ⟨false, y, rfl, E.out.se.less (fun j hj => .inl hj) (HH.out.calls.only E.out.only (fun _ h => h)), E.out.only, ?_⟩
      have e1 := E.out.no
      have e2 := E.out.f
      have e3 := E.out.n
      rw [List.take_length] at e1 e2 e3
      rw [e1]
      exact ⟨rfl, E.out.d, E.out.o, e2, e3⟩

set_option maxHeartbeats 4000000 in
theorem se_each_tally {K : Nat → Prop} {w : World} {B : Nat} {s0 : StZ} {L : List CallZ} {cv mv : Value} {x : Se} {s : StZ} {n c cap : Nat} {res : List Bool → StZ → Option (List Int)} {cnt : List Bool → StZ → Nat} {P : List Int} {pa : Option Addr} (h : SeIs K w B s0 L cv mv x) (hgo : GoOn 24 B s0 L cv mv n c res cnt)
    (hn : nU L x.D = n + 1) (hO : x.O.length + (n + 1) = L.length) (hL : L.length ≤ 24) (hs : StOk c x.O.length s) (hp : ∀ y ∈ L, y.op.p.size ≤ c) (hP : ∀ y ∈ P, ∃ i : Nat, y = (i : Int) ∧ i < L.length ∧ doneB x.D i = false) (hPl : P.length ≤ 1000) (hpl : PlK K w pa P)
    (hf0 : 0 ≤ x.fnd) (hf : x.fnd + ((P.map (stepC L x.D s cnt)).sum : Nat) ≤ 1000000) (hk : x.n + (P.map (stepK L n x.D)).sum < maxLen) :
    Calls Try.prog 32 #[.pointer (some ⟨B, 0, none⟩), stA s, .slice pa P.length cap, .func (.func 24) #[.pointer (some ⟨B, 0, none⟩)] #[]] w fun e w' =>
      GoEnd K w B s0 L cv mv (P.findSome? (stepR L x.D s res)) (P.map (stepC L x.D s cnt)).sum (P.map (stepK L n x.D)).sum x e w' := by
  have HH := Lib.hid h
  have HG := Lib.hid hgo
  have HN := Lib.hid hn
  have HO := Lib.hid hO
  have HS := Lib.hid hs
  have Hp := Lib.hid hp
  have HP := Lib.hid hP
  have HPL := Lib.hid hpl
  have HF := Lib.hid hf
  have HK := Lib.hid hk
  have n1 : Hid (-100000000 ≤ s.n ∧ s.n ≤ 100000000) := Lib.hid ⟨by have := hs.lo; omega, by have := hs.hi; omega⟩
  clear h hgo hn hO hs hp hP hpl hf hk
  go_enter Try.func32, Try.ntmps32
  go_wp2
  go_loopw [15] (fun q wr => ∃ (k : Nat) (y : Se), k ≤ P.length ∧ q = .int .i64 k ∧ Hid (EInv K w wr B s0 L cv mv x s n res cnt P k y)) (fun q _ => P.length - (intOf q).toNat)
  case atStart => exact ⟨0, x, Nat.zero_le _, rfl, Lib.hid (EInv.start HH.out)⟩
  case round =>
    obtain ⟨k, y, hkl, rfl, E⟩ := hrel
    by_cases hlt : k < P.length
    · obtain ⟨b0, off0, rfl, hK0, hc0⟩ := (HPL.out.only E.out.only (fun _ h => h)) k hlt
      obtain ⟨i, hi, hil, hid⟩ := HP.out (P.getD k 0) (by rw [getD_at hlt]; exact List.getElem_mem hlt)
      have EI := Lib.hid (show P[k] = (i : Int) by rw [← getD_at hlt, hi])
      rw [hi] at hc0
      clear hK0 hi
      obtain ⟨a, c', rfl, hr, hck⟩ := E.out.se.calls
      obtain ⟨b, off, rfl, hb, hri⟩ := hr.range hil
      have hA := lin_answers s0 s (atZ L (i : Int)) n1.out.1 n1.out.2
      have HOP := Lib.hid (Hp.out (atZ L (i : Int)) (by rw [atZ_nat hil]; exact List.getElem_mem hil))
      rw [← atZ_nat hil] at hri
      have Gk := Lib.hid (show goOk smallM L s (i : Int) = decide ((doZ s (atZ L (i : Int)).op).2 = (atZ L (i : Int)).an) ∧ goTo smallM L s (i : Int) = (doZ s (atZ L (i : Int)).op).1 from ⟨rfl, rfl⟩)
      generalize atZ L (i : Int) = cc at *
      generalize hdo : doZ s cc.op = dd at *
      obtain ⟨s', a'⟩ := dd
      simp only at hA Gk
      have HDO := Lib.hid hdo
      clear hdo
      generalize decide (a' = cc.an) = ok at *
      have E0 : Hid (EaS wr.drew B w.heap.size b off c' i L.length s0 s cc) := Lib.hid ⟨rangeAt_sub (o := 0) (blk_range E.out.se.blk) (fun j v hv => by rw [Nat.zero_add]; exact mV_at hv), blk_range E.out.box, E.out.se.callsAt, hri⟩
      have HD := Lib.hid hid
      have hi' : (i : Int) < (L.length : Int) := by omega
      have hdr : wr.drew.heap.size = wr.heap.size := rfl
      clear hr hck hri hid
      go_upto_region 4 with fail
      go_cut [11, 12] from 16 to 46 (fun s11 s12 wx => ∃ X : Nat, s11 = .pointer (some ⟨X, 0, none⟩) ∧ s12 = .bool ok ∧ Hid (EMid wr wx X s'))
      case first =>
        refine wp_region_noPanic ?_
        refine wp_region_held_drew (S := (fun w' => w'.rangeAt B 0 (mV s0) ∧ w'.rangeAt w.heap.size 0 (stV s) ∧ w'.cell? ⟨B, 4, none⟩ = some (.slice (some ⟨b, off, none⟩) L.length c') ∧ w'.rangeAt b (off + i * 15) (callV cc))) (by kernel_rfl) ?_ (fun hHeld => ?_)
        · first | exact E0.out.keep rfl G6.out | exact E0.out
        refine wpAnyH_take (i := 0) (oi := ⟨some 20, _, _, _, _, _⟩) (v := ?_) rfl (by kernel_rfl) (by kernel_rfl) (by kernel_rfl) (fun _ _ _ h => h) (Or.inl ⟨by rfl, ?_⟩) (by assumption) ?_
        rotate_left
        · (intro w hSw; (try dsimp only at hSw); go_simp; try with_reducible rfl)
        try simp only [Act.put, List.setIfInBounds_toArray, List.set_cons_zero, List.set_cons_succ]
        refine wpAnyH_take (i := 1) (oi := ⟨some 21, _, _, _, _, _⟩) (v := ?_) rfl (by kernel_rfl) (by kernel_rfl) (by kernel_rfl) (fun _ _ _ h => h) (Or.inl ⟨by rfl, ?_⟩) (by assumption) ?_
        rotate_left
        · (intro w hSw; (try dsimp only at hSw); go_simp; try with_reducible rfl)
        try simp only [Act.put, List.setIfInBounds_toArray, List.set_cons_zero, List.set_cons_succ]
        refine wpAnyH_take (i := 2) (oi := ⟨some 22, _, _, _, _, _⟩) (v := ?_) rfl (by kernel_rfl) (by kernel_rfl) (by kernel_rfl) (fun _ _ _ h => h) (Or.inl ⟨by rfl, ?_⟩) (by assumption) ?_
        rotate_left
        · (intro w hSw; (try dsimp only at hSw); go_simp; try with_reducible rfl)
        try simp only [Act.put, List.setIfInBounds_toArray, List.set_cons_zero, List.set_cons_succ]
        refine wpAnyH_take (i := 3) (oi := ⟨some 23, _, _, _, _, _⟩) (v := mA s0) rfl (by kernel_rfl) (by kernel_rfl) (by kernel_rfl) (fun _ _ _ h => h) (yieldsIf_load_mid (by rfl) 44 _ rfl B 0 rfl (mV s0) _ (fun w h => h.1) Try.underlying44 rfl (by kernel_rfl)) (by assumption) ?_
        try simp only [Act.put, List.setIfInBounds_toArray, List.set_cons_zero, List.set_cons_succ]
        refine wpAnyH_take (i := 4) (oi := ⟨some 24, _, _, _, _, _⟩) (v := stA s) rfl (by kernel_rfl) (by kernel_rfl) (by kernel_rfl) (fun _ _ _ h => h) (yieldsIf_load_mid (by rfl) 40 _ rfl w.heap.size 0 rfl (stV s) _ (fun w h => h.2.1) Try.underlying40 rfl (by kernel_rfl)) (by assumption) ?_
        try simp only [Act.put, List.setIfInBounds_toArray, List.set_cons_zero, List.set_cons_succ]
        refine wpAnyH_take (i := 5) (oi := ⟨some 25, _, _, _, _, _⟩) (v := ?_) rfl (by kernel_rfl) (by kernel_rfl) (by kernel_rfl) (fun _ _ _ h => h) (Or.inl ⟨by rfl, ?_⟩) (by assumption) ?_
        rotate_left
        · (intro w hSw; (try dsimp only at hSw); go_simp; try with_reducible rfl)
        try simp only [Act.put, List.setIfInBounds_toArray, List.set_cons_zero, List.set_cons_succ]
        refine wpAnyH_take (i := 6) (oi := ⟨some 26, _, _, _, _, _⟩) (v := ?_) rfl (by kernel_rfl) (by kernel_rfl) (by kernel_rfl) (fun _ _ _ h => h) (Or.inl ⟨by rfl, ?_⟩) (by assumption) ?_
        rotate_left
        · (intro w hSw; (try dsimp only at hSw); go_simp; try with_reducible rfl)
        try simp only [Act.put, List.setIfInBounds_toArray, List.set_cons_zero, List.set_cons_succ]
        refine wpAnyH_take (i := 7) (oi := ⟨some 27, _, _, _, _, _⟩) (v := ?_) rfl (by kernel_rfl) (by kernel_rfl) (by kernel_rfl) (fun _ _ _ h => h) (Or.inl ⟨by rfl, ?_⟩) (by assumption) ?_
        rotate_left
        · (intro w hSw; (try dsimp only at hSw); go_simp; try with_reducible rfl)
        try simp only [Act.put, List.setIfInBounds_toArray, List.set_cons_zero, List.set_cons_succ]
        refine wpAnyH_take (i := 8) (oi := ⟨some 28, _, _, _, _, _⟩) (v := ?_) rfl (by kernel_rfl) (by kernel_rfl) (by kernel_rfl) (fun _ _ _ h => h) (Or.inl ⟨by rfl, ?_⟩) (by assumption) ?_
        rotate_left
        · (intro w hSw; (try dsimp only at hSw); go_simp; try with_reducible rfl)
        try simp only [Act.put, List.setIfInBounds_toArray, List.set_cons_zero, List.set_cons_succ]
        refine wpAnyH_take (i := 9) (oi := ⟨some 29, _, _, _, _, _⟩) (v := ?_) rfl (by kernel_rfl) (by kernel_rfl) (by kernel_rfl) (fun _ _ _ h => h) (Or.inl ⟨by rfl, ?_⟩) (by assumption) ?_
        rotate_left
        · (intro w hSw; (try dsimp only at hSw); go_simp; try with_reducible rfl)
        try simp only [Act.put, List.setIfInBounds_toArray, List.set_cons_zero, List.set_cons_succ]
        refine wpAnyH_take (i := 10) (oi := ⟨some 30, _, _, _, _, _⟩) (v := ?_) rfl (by kernel_rfl) (by kernel_rfl) (by kernel_rfl) (fun _ _ _ h => h) (Or.inl ⟨by rfl, ?_⟩) (by assumption) ?_
        rotate_left
        · (intro w hSw; (try dsimp only at hSw); go_simp; try with_reducible rfl)
        try simp only [Act.put, List.setIfInBounds_toArray, List.set_cons_zero, List.set_cons_succ]
        refine wpAnyH_take (i := 11) (oi := ⟨some 31, _, _, _, _, _⟩) (v := callA cc) rfl (by kernel_rfl) (by kernel_rfl) (by kernel_rfl) (fun _ _ _ h => h) (yieldsIf_load_mid (by rfl) 34 _ rfl b (off + i * 15) rfl (callV cc) _ (fun w h => h.2.2.2) Try.underlying34 rfl (by kernel_rfl)) (by assumption) ?_
        try simp only [Act.put, List.setIfInBounds_toArray, List.set_cons_zero, List.set_cons_succ]
        refine wpAnyH_ready (rs := [12, 16]) (by kernel_rfl) (by simp) ?_
        refine AllReadyH.cons (o := ⟨some 32, _, _, _, _, _⟩) rfl (fun K hK => ?_) (AllReadyH.cons (o := ⟨some 11, _, _, _, _, _⟩) rfl (fun K hK => ?_) AllReadyH.nil)
        · go_simp
          refine (hA _).mono ?_
          rintro e w6 ⟨rfl, hb6⟩
          have G6 := Lib.hid (hb6)
          clear hb6
          go_wp2_with fail
          refine hK.out _ _ ?_ (fun hHeldX => ?_)
          · first | exact E0.out.keep rfl G6.out | exact E0.out
          clear hK K hHeld
          rename _ => hHeld
          try simp only [Act.put, List.setIfInBounds_toArray, List.set_cons_zero, List.set_cons_succ]
          refine wpAnyH_take (i := 13) (oi := ⟨some 19, _, _, _, _, _⟩) (v := ?_) rfl (by kernel_rfl) (by kernel_rfl) (by kernel_rfl) (fun _ _ _ h => h) (Or.inl ⟨by rfl, ?_⟩) (by assumption) ?_
          rotate_left
          · (intro w hSw; (try dsimp only at hSw); go_simp; try with_reducible rfl)
          try simp only [Act.put, List.setIfInBounds_toArray, List.set_cons_zero, List.set_cons_succ]
          refine wpAnyH_take (i := 14) (oi := ⟨some 33, _, _, _, _, _⟩) (v := ?_) rfl (by kernel_rfl) (by kernel_rfl) (by kernel_rfl) (fun _ _ _ h => h) (Or.inl ⟨by rfl, ?_⟩) (by assumption) ?_
          rotate_left
          · (intro w hSw; (try dsimp only at hSw); go_simp; try with_reducible rfl)
          try simp only [Act.put, List.setIfInBounds_toArray, List.set_cons_zero, List.set_cons_succ]
          refine wpAnyH_take (i := 15) (oi := ⟨some 34, _, _, _, _, _⟩) (v := ?_) rfl (by kernel_rfl) (by kernel_rfl) (by kernel_rfl) (fun _ _ _ h => h) (Or.inl ⟨by rfl, ?_⟩) (by assumption) ?_
          rotate_left
          · (intro w hSw; (try dsimp only at hSw); go_simp; try with_reducible rfl)
          try simp only [Act.put, List.setIfInBounds_toArray, List.set_cons_zero, List.set_cons_succ]
          refine wpAnyH_ready (rs := [16]) (by kernel_rfl) (by simp) ?_
          refine AllReadyH.cons (o := ⟨some 11, _, _, _, _, _⟩) rfl (fun K hK => ?_) AllReadyH.nil
          go_simp
          refine hK.out _ _ ?_ (fun hHeldX => ?_)
          · exact E0.out.keep rfl (G6.out.alloc G6.out.size _)
          clear hK K hHeld
          rename _ => hHeld
          try simp only [Act.put, List.setIfInBounds_toArray, List.set_cons_zero, List.set_cons_succ]
          refine wpAnyH_ready (rs := [17]) (by kernel_rfl) (by simp) ?_
          refine AllReadyH.cons (o := ⟨none, _, _, _, _, _⟩) rfl (fun K hK => ?_) AllReadyH.nil
          have T7 := Lib.hid (Blk.new (W := w6) (t := 40) (l := [Value.int .i64 0, Value.string { data := #[] }]))
          refine step_store_mid rfl 40 (.tmp 11) (.tmp 33) rfl w6.heap.size 0 (stV s').toArray rfl rfl (blk_there T7.out (o := 0) (m := 2) (by decide)) (by kernel_rfl) (stV_one _) ?_
          obtain ⟨w7, e7⟩ : ∃ w7, (w6.alloc (.cells #[Value.int .i64 0, Value.string { data := #[] }] 40)).setCells w6.heap.size 0 (stV s') = w7 := ⟨_, rfl⟩
          rw [show (stV s').toArray.toList = stV s' from rfl, e7]
          obtain ⟨b7, o7⟩ := st_wrote rfl T7.out e7
          have B7 := Lib.hid b7
          have G7 := Lib.hid ((G6.out.alloc G6.out.size (.cells #[Value.int .i64 0, Value.string { data := #[] }] 40)).trans (o7.below (by have := G6.out.size; simp at this ⊢; omega) (by intro j hj e; have := G6.out.size; simp at this; omega)))
          clear e7 b7 o7
          refine hK.out _ _ ?_ (fun hHeldX => ?_)
          · exact E0.out.keep rfl G7.out
          clear hK K hHeld
          rename _ => hHeld
          simp only [Act.put]
          refine wpAnyH_take (i := 18) (oi := ⟨some 12, _, _, _, _, _⟩) (v := ?_) rfl (by kernel_rfl) (by kernel_rfl) (by kernel_rfl) (fun _ _ _ h => h) (Or.inl ⟨by rfl, ?_⟩) (by assumption) ?_
          rotate_left
          · (intro w hSw; (try dsimp only at hSw); go_simp; try with_reducible rfl)
          try simp only [Act.put, List.setIfInBounds_toArray, List.set_cons_zero, List.set_cons_succ]
          refine wpAnyH_done (by kernel_rfl) ?_ _
          refine NoPanic.normal ?_
          go_wp2_with fail
          go_meet
          case rel => exact ⟨_, rfl, rfl, Lib.hid ⟨by have := G6.out.size; simp at this ⊢; try omega, B7.out, (below_draws (Below.refl _ wr) 1).trans G7.out⟩⟩
        · go_simp
          refine hK.out _ _ ?_ (fun hHeldX => ?_)
          · exact E0.out.keep rfl ((Below.refl _ _).alloc (Nat.le_refl _) _)
          clear hK K hHeld
          rename _ => hHeld
          try simp only [Act.put, List.setIfInBounds_toArray, List.set_cons_zero, List.set_cons_succ]
          refine wpAnyH_ready (rs := [12]) (by kernel_rfl) (by simp) ?_
          refine AllReadyH.cons (o := ⟨some 32, _, _, _, _, _⟩) rfl (fun K hK => ?_) AllReadyH.nil
          go_simp
          refine (hA _).mono ?_
          rintro e w6 ⟨rfl, hb6⟩
          have G5 := Lib.hid hb6
          have G6 := Lib.hid (((Below.refl wr.heap.size wr.drew).alloc (Nat.le_refl _) _).trans (hb6.mono (by simp)))
          clear hb6
          go_wp2_with fail
          refine hK.out _ _ ?_ (fun hHeldX => ?_)
          · first | exact E0.out.keep rfl G6.out | exact E0.out
          clear hK K hHeld
          rename _ => hHeld
          try simp only [Act.put, List.setIfInBounds_toArray, List.set_cons_zero, List.set_cons_succ]
          refine wpAnyH_take (i := 13) (oi := ⟨some 19, _, _, _, _, _⟩) (v := ?_) rfl (by kernel_rfl) (by kernel_rfl) (by kernel_rfl) (fun _ _ _ h => h) (Or.inl ⟨by rfl, ?_⟩) (by assumption) ?_
          rotate_left
          · (intro w hSw; (try dsimp only at hSw); go_simp; try with_reducible rfl)
          try simp only [Act.put, List.setIfInBounds_toArray, List.set_cons_zero, List.set_cons_succ]
          refine wpAnyH_take (i := 14) (oi := ⟨some 33, _, _, _, _, _⟩) (v := ?_) rfl (by kernel_rfl) (by kernel_rfl) (by kernel_rfl) (fun _ _ _ h => h) (Or.inl ⟨by rfl, ?_⟩) (by assumption) ?_
          rotate_left
          · (intro w hSw; (try dsimp only at hSw); go_simp; try with_reducible rfl)
          try simp only [Act.put, List.setIfInBounds_toArray, List.set_cons_zero, List.set_cons_succ]
          refine wpAnyH_take (i := 15) (oi := ⟨some 34, _, _, _, _, _⟩) (v := ?_) rfl (by kernel_rfl) (by kernel_rfl) (by kernel_rfl) (fun _ _ _ h => h) (Or.inl ⟨by rfl, ?_⟩) (by assumption) ?_
          rotate_left
          · (intro w hSw; (try dsimp only at hSw); go_simp; try with_reducible rfl)
          try simp only [Act.put, List.setIfInBounds_toArray, List.set_cons_zero, List.set_cons_succ]
          refine wpAnyH_ready (rs := [17]) (by kernel_rfl) (by simp) ?_
          refine AllReadyH.cons (o := ⟨none, _, _, _, _, _⟩) rfl (fun K hK => ?_) AllReadyH.nil
          have T7 := Lib.hid ((Blk.newN (n := wr.heap.size) (by rfl) (W := wr.drew) (t := 40) (l := [Value.int .i64 0, Value.string { data := #[] }])).below G5.out (by simp))
          refine step_store_mid rfl 40 (.tmp 11) (.tmp 33) rfl wr.heap.size 0 (stV s').toArray rfl rfl (blk_there T7.out (o := 0) (m := 2) (by decide)) (by kernel_rfl) (stV_one _) ?_
          obtain ⟨w7, e7⟩ : ∃ w7, (w6).setCells wr.heap.size 0 (stV s') = w7 := ⟨_, rfl⟩
          rw [show (stV s').toArray.toList = stV s' from rfl, e7]
          obtain ⟨b7, o7⟩ := st_wrote rfl T7.out e7
          have B7 := Lib.hid b7
          have G7 := Lib.hid (G6.out.trans (o7.below (by have := G6.out.size; simp at this ⊢; omega) (by intro j hj e; have := G6.out.size; simp at this; omega)))
          clear e7 b7 o7
          refine hK.out _ _ ?_ (fun hHeldX => ?_)
          · exact E0.out.keep rfl G7.out
          clear hK K hHeld
          rename _ => hHeld
          simp only [Act.put]
          refine wpAnyH_take (i := 18) (oi := ⟨some 12, _, _, _, _, _⟩) (v := ?_) rfl (by kernel_rfl) (by kernel_rfl) (by kernel_rfl) (fun _ _ _ h => h) (Or.inl ⟨by rfl, ?_⟩) (by assumption) ?_
          rotate_left
          · (intro w hSw; (try dsimp only at hSw); go_simp; try with_reducible rfl)
          try simp only [Act.put, List.setIfInBounds_toArray, List.set_cons_zero, List.set_cons_succ]
          refine wpAnyH_done (by kernel_rfl) ?_ _
          refine NoPanic.normal ?_
          go_wp2_with fail
          go_meet
          case rel => exact ⟨_, rfl, rfl, Lib.hid ⟨by have := G6.out.size; simp at this ⊢; try omega, B7.out, (below_draws (Below.refl _ wr) 1).trans G7.out⟩⟩
      case rest =>
        obtain ⟨X, rfl, rfl, M⟩ := hcut
        cases hok : ok
        · subst hok
          go_wp2
          go_roundw
          case rel => exact ⟨k + 1, y, by omega, by go_num, Lib.hid (E.out.skip hlt M.out.b (by rw [EI.out]; exact Gk.out.1))⟩
          case measure => simp [intOf]; omega
        · subst hok
          have I := Lib.hid (E.out.into M.out.b M.out.le M.out.blk)
          go_wp2_with fail
          refine (se_take I.out (i := i) (by omega) (by rw [E.out.o]; have := HO.out; omega)).mono ?_
          rintro e w3 ⟨rfl, ⟨ov3, h3⟩, q3⟩
          have H3 := Lib.hid h3
          have Q3 := Lib.hid q3
          have R3 := Lib.hid (blk_range (M.out.blk.only q3 (fun h => h (.inr rfl))))
          clear h3 q3
          go_wp2_with (with_reducible show wpList _ _ _ (⟨some 41, _, _, _, _, _⟩ :: _) _ _; refine wpList_load_mid rfl 40 _ rfl X 0 rfl (stV s') _ R3.out Try.underlying40 rfl (by kernel_rfl) ?_)
          obtain ⟨yo, yD, yO, yf, yn⟩ := y
          have ed := E.out.d
          have eo := E.out.o
          simp only at ed eo
          subst ed eo
          obtain ⟨⟨p0, p1⟩, p2⟩ := E.out.pre hlt HF.out HK.out (by rw [EI.out]; exact Gk.out.1)
          rw [EI.out, Gk.out.2, Int.toNat_natCast] at p1
          rw [EI.out, Int.toNat_natCast] at p2
          have hU : nU L (x.D.set i true) = n := by have := nU_set (L := L) (D := x.D) (by rw [HH.out.dl]; exact hL) hil HD.out; have := HN.out; omega
          have hS : StOk c (x.O ++ [(i : Int)]).length s' := by have := HS.out.step HOP.out; rw [HDO.out] at this; simpa using this
          have hO2 : (x.O ++ [(i : Int)]).length + n = L.length := by have := HO.out; simp; omega
          refine (HG.out _ w3 _ s' H3.out hU hO2 hS (Int.le_trans hf0 p0) p1 p2).mono ?_
          rintro e w4 ⟨r, ⟨o4, D4, O4, f4, n4⟩, rfl, h4, q4, g4⟩
          have Q4 := Lib.hid (Q3.out.trans q4)
          have H4 := Lib.hid h4
          clear h4 q4 p0 p1 p2 hU hS hO2
          simp only at g4
          cases hres : res (x.D.set i true) s' with
          | none =>
            rw [hres] at g4
            obtain ⟨rfl, e1, e2, e3, e4⟩ := g4
            simp only at e1 e2 e3 e4
            subst e1 e2
            have HR := Lib.hid hres
            have J := Lib.hid (And.intro e3 e4)
            clear e3 e4 hres
            go_wp2_with fail
            refine (se_giveBack H4.out (i := i) (by omega) (by have := HO.out; omega)).mono ?_
            rintro e w5 ⟨rfl, ⟨ov5, h5⟩, q5⟩
            rw [set_back HD.out] at h5
            have H5 := Lib.hid h5
            have Q5 := Lib.hid (Q4.out.trans q5)
            clear h5 q5
            go_wp2
            go_roundw
            case rel => exact ⟨k + 1, _, by omega, by go_num, Lib.hid (E.out.turn hlt M.out.b H5.out Q5.out (by rw [EI.out]; exact Gk.out.1) (by rw [EI.out, Gk.out.2]; exact HR.out) rfl rfl (by rw [EI.out, Gk.out.2]; exact J.out.1) (by rw [EI.out]; exact J.out.2))⟩
            case measure => simp [intOf]; omega
          | some t =>
            rw [hres] at g4
            obtain ⟨rfl, e1⟩ := g4
            simp only at e1
            have J := Lib.hid (show P.findSome? (stepR L x.D s res) = some ((i : Int) :: t) from find_of_take (k := k + 1) (by
              rw [find_take hlt E.out.no, EI.out]
              unfold stepR
              rw [if_pos Gk.out.1, Gk.out.2, Int.toNat_natCast, hres]
              rfl))
            have J1 := Lib.hid e1
            clear hres e1
            go_wp2
            go_ret
            have lv := E.out.leave HH.out M.out.b H4.out Q4.out
            exact ⟨true, _, rfl, lv.2, lv.1, by rw [J.out]; exact ⟨rfl, by rw [J1.out, List.append_assoc]; rfl⟩⟩
    · obtain rfl : k = P.length := by omega
      go_wp2
      go_ret
      refine ⟨false, y, rfl, E.out.se.less (fun j hj => .inl hj) (HH.out.calls.only E.out.only (fun _ h => h)), E.out.only, ?_⟩
      have e1 := E.out.no
      have e2 := E.out.f
      have e3 := E.out.n
      rw [List.take_length] at e1 e2 e3
      rw [e1]
      exact ⟨rfl, E.out.d, E.out.o, e2, e3⟩
end Go.Proofs.Ythngehpmoiojfaa
