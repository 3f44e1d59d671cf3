/- Layer 12: a deed on both sides (plain facts and where all lies). -/
import Derived.Test.YteigkomefehpjaaSame12
namespace Go.Proofs.Yteigkomefehpjaa
open Go.RowKit

theorem blk_ne12 {t t' : TypeId} {w : World} {B B' : Nat} {l l' : List Value} (h : Blk t w B l) (h' : Blk t' w B' l') (hne : t ≠ t') : B ≠ B' := by
  rintro rfl
  have h1 : w.heap[B]? = _ := h
  rw [show w.heap[B]? = _ from h'] at h1
  injection h1 with h1
  injection h1 with _ h1
  exact hne h1.symm
theorem rows_ne {w : World} {e e' : TypeId} {b b' n n' s s' k : Nat} {v v' : Value} {xs xs' : List Value} (h : w.ownsRow b e s v n xs) (h' : w.ownsRow b' e' s' v' n' xs') (hk : v.ownBlock = some k) (hk' : v'.ownBlock = some k) (hne : e ≠ e') : False := by
  obtain ⟨l, _, _, _, hb, _⟩ := own_heap h hk
  obtain ⟨l', _, _, _, hb', _⟩ := own_heap h' hk'
  exact blk_ne12 hb hb' hne rfl
def SX (X A : Nat) (pv rv : Value) (k : Nat) : Prop := (k = X ∨ pv.ownBlock = some k) ∨ RB A rv k
def All12 (S : Nat → Prop) (w : World) (L : List NdR) : Prop := ∀ (i : Nat) (r : NdR), L[i]? = some r → One S w L r ∧ Good L i r
section
variable {S S' T : Nat → Prop} {w w' : World} {L : List NdR} {r x : NdR} {i : Nat}
theorem bAt_ext {j : Nat} (h : j < L.length) : bAt (L ++ [x]) (j : Int) = bAt L (j : Int) := by simp [bAt, List.getElem?_append_left h]
theorem zAt_ext {j : Nat} (h : j < L.length) : zAt (L ++ [x]) (j : Int) = zAt L (j : Int) := by simp [zAt, List.getElem?_append_left h]
theorem toP_ext {E : List Ent} (h : ∀ p ∈ E, ∃ j : Nat, p.2 = (j : Int) ∧ j < L.length) : toP (L ++ [x]) E = toP L E := by
  refine List.map_congr_left fun p hp => ?_
  obtain ⟨j, hj, hl⟩ := h p hp
  rw [hj, bAt_ext hl]
theorem sumZ_congr {f g : Int → Nat} : ∀ {E : List Ent}, (∀ p ∈ E, f p.2 = g p.2) → sumZ f E = sumZ g E
  | [], _ => rfl
  | p :: r, h => by
    have e1 : ∀ h' : Int → Nat, sumZ h' (p :: r) = h' p.2 + sumZ h' r := fun _ => by simp [sumZ]
    rw [e1, e1, h p (by simp), sumZ_congr fun q hq => h q (by simp [hq])]
theorem sumZ_ext {E : List Ent} (h : ∀ p ∈ E, ∃ j : Nat, p.2 = (j : Int) ∧ j < L.length) : sumZ (zAt (L ++ [x])) E = sumZ (zAt L) E :=
  sumZ_congr fun p hp => by
    obtain ⟨j, hj, hl⟩ := h p hp
    rw [hj, zAt_ext hl]
theorem Good.inL (h : Good L i r) (hi : i ≤ L.length) : ∀ p ∈ r.kids, ∃ j : Nat, p.2 = (j : Int) ∧ j < L.length := fun p hp => by
  obtain ⟨_, j, hj, hl, _⟩ := h.kid p hp
  exact ⟨j, hj, by omega⟩
theorem Good.ext (h : Good L i r) (hi : i < L.length) : Good (L ++ [x]) i r := by
  refine ⟨h.subs, h.kids, h.up, h.kup, fun p hp => ?_, ?_⟩
  · obtain ⟨h1, j, hj, hl, y, hy, hb⟩ := h.kid p hp
    exact ⟨h1, j, hj, hl, y, by rw [List.getElem?_append_left (by omega)]; exact hy, hb⟩
  · rw [sumZ_ext (h.inL (by omega))]; exact h.size
theorem One.turn (h : One S w L r) (ho : Only T w w') (hT : ∀ k, T k → S k) (hS : ∀ k, k < w.heap.size → S' k → S k) : One S' w' L r := by
  have g1 : Off T r.t.1 := fun g o n c he e => h.off1 g o n c he (hT _ e)
  have g2 : Off T r.t.2.1 := fun g o n c he e => h.off2 g o n c he (hT _ e)
  have g3 : Off T r.t.2.2 := fun g o n c he e => h.off3 g o n c he (hT _ e)
  obtain ⟨s1, s2⟩ := refIn_slices h.ref
  exact ⟨h.nd.turn ho hT hS, sliceK_only h.nums ho g1, refIn_only h.ref ho g2 g3, h.off1.turn h.nums hS, h.off2.turn s1 hS, h.off3.turn s2 hS⟩
theorem One.ext (h : One S w L r) (hk : ∀ p ∈ r.kids, ∃ j : Nat, p.2 = (j : Int) ∧ j < L.length) : One S w (L ++ [x]) r := ⟨by rw [toP_ext hk]; exact h.nd, h.nums, h.ref, h.off1, h.off2, h.off3⟩
theorem All12.turn (h : All12 S w L) (ho : Only T w w') (hT : ∀ k, T k → S k) (hS : ∀ k, k < w.heap.size → S' k → S k) : All12 S' w' L := fun i r hr => ⟨(h i r hr).1.turn ho hT hS, (h i r hr).2⟩
theorem All12.snoc (h : All12 S w L) (h1 : One S w L x) (hk : ∀ p ∈ x.kids, ∃ j : Nat, p.2 = (j : Int) ∧ j < L.length) (h2 : Good (L ++ [x]) L.length x) : All12 S w (L ++ [x]) := fun i r hr => by
  rcases Nat.lt_or_ge i L.length with hi | hi
  · rw [List.getElem?_append_left hi] at hr
    exact ⟨(h i r hr).1.ext ((h i r hr).2.inL (by omega)), (h i r hr).2.ext hi⟩
  · rw [List.getElem?_append_right hi] at hr
    obtain ⟨h3, h4⟩ : i - L.length = 0 ∧ x = r := by
      cases hh : i - L.length with
      | zero => rw [hh] at hr; exact ⟨rfl, by simpa using hr⟩
      | succ n => rw [hh] at hr; simp at hr
    subst h4
    obtain rfl : i = L.length := by omega
    exact ⟨h1.ext hk, h2⟩
end

/-- Where the loop stands. -/
structure PSt (w1 w : World) (X A : Nat) (pv rv : Value) (L : List NdR) : Prop where
  row : RRow w w1.heap.size A rv (L.map NdR.t)
  all : All12 (SX X A pv rv) w L
  box : Blk 24 w X [pv]
  prow : w.ownsRow w1.heap.size 29 1 pv L.length (L.map fun r => .pointer (some ⟨r.b, 0, none⟩))
  small : ∀ r ∈ L, r.z ≤ 2000
  low : Below w1.heap.size w1 w
  lowX : w1.heap.size ≤ X
  lowA : w1.heap.size ≤ A
  len : L.length ≤ 60
/-- A node is made on both sides, and not yet among the nodes. -/
structure MSt (w1 w : World) (X A : Nat) (pv rv : Value) (L : List NdR) (x : NdR) : Prop where
  row : RRow w w1.heap.size A rv ((L ++ [x]).map NdR.t)
  all : All12 (SX X A pv rv) w (L ++ [x])
  box : Blk 24 w X [pv]
  prow : w.ownsRow w1.heap.size 29 1 pv L.length (L.map fun r => .pointer (some ⟨r.b, 0, none⟩))
  small : ∀ r ∈ L, r.z ≤ 2000
  zb : x.z ≤ 200000
  low : Below w1.heap.size w1 w
  lowX : w1.heap.size ≤ X
  lowA : w1.heap.size ≤ A
  len : L.length ≤ 60
section
variable {w1 w w' wb wc : World} {X A : Nat} {pv rv rv' : Value} {L : List NdR} {r x : NdR}
theorem PSt.core (h : PSt w1 w X A pv rv L) : Core (SX X A pv rv) w w1.heap.size A rv L := ⟨h.row, h.all⟩
theorem MSt.core (h : MSt w1 w X A pv rv L x) : Core (SX X A pv rv) w w1.heap.size A rv (L ++ [x]) := ⟨h.row, h.all⟩
theorem All12.below {S : Nat → Prop} (h : All12 S w L) (hb : Below w.heap.size w w') : All12 S w' L := fun i r hr => ⟨(h i r hr).1.below hb, (h i r hr).2⟩
theorem PSt.below (h : PSt w1 w X A pv rv L) (hb : Below w.heap.size w w') : PSt w1 w' X A pv rv L :=
  ⟨h.row.below hb, h.all.below hb, h.box.below hb h.box.lt, own_only h.prow (Only.of_below hb (fun _ => False)) (fun _ _ h => h), h.small, below_step h.low hb, h.lowX, h.lowA, h.len⟩
theorem MSt.below (h : MSt w1 w X A pv rv L x) (hb : Below w.heap.size w w') : MSt w1 w' X A pv rv L x :=
  ⟨h.row.below hb, h.all.below hb, h.box.below hb h.box.lt, own_only h.prow (Only.of_below hb (fun _ => False)) (fun _ _ h => h), h.small, h.zb, below_step h.low hb, h.lowX, h.lowA, h.len⟩
theorem PSt.lt (h : PSt w1 w X A pv rv L) {k : Nat} (hk : SX X A pv rv k) : k < w.heap.size := by
  rcases hk with (rfl | hk) | hk
  · exact h.box.lt
  · exact (h.prow.lt k hk).2
  · exact h.row.lt hk
theorem PSt.fresh (h : PSt w1 w X A pv rv L) : ∀ k, w.heap.size ≤ k → ¬ SX X A pv rv k := fun k hk e => by have := h.lt e; omega
theorem SX.new {m : Nat} (hn : RNew m rv rv') : ∀ k, k < m → SX X A pv rv' k → SX X A pv rv k := fun k hk e => by
  rcases e with e | e | e
  · exact .inl e
  · exact .inr (.inl e)
  · exact (hn k e).elim (fun e => .inr (.inr e)) (fun e => by omega)
/-- A fresh list is off all. -/
theorem PSt.off (h : PSt w1 wb X A pv rv L) {u : Value} (hf : FreshV wb.heap.size u) (ho : Off (RB A rv') u) : Off (SX X A pv rv') u := fun g o n c he e => by
  have hg := hf g o n c he
  rcases e with (rfl | e) | e
  · have := h.box.lt; omega
  · have := (h.prow.lt g e).2; omega
  · exact ho g o n c he e
/-- Both have made it. -/
theorem PSt.made (h : PSt w1 wb X A pv rv L) (hnd : NdIs (SX X A pv rv) wb x.b x.subs (toP L x.kids) (x.z - 1)) (hrow : RRow wc w1.heap.size A rv' (L.map NdR.t ++ [x.t])) (ho : Only (RB A rv) wb wc) (hn : RNew wb.heap.size rv rv')
    (hnum : NumsIn wc x.t.1 x.subs) (href : RefIn wc (.agg #[x.t.2.1, x.t.2.2]) x.kids) (o1 : Off (SX X A pv rv') x.t.1) (o2 : Off (SX X A pv rv') x.t.2.1) (o3 : Off (SX X A pv rv') x.t.2.2)
    (hk : ∀ p ∈ x.kids, ∃ j : Nat, p.2 = (j : Int) ∧ j < L.length) (hg : Good (L ++ [x]) L.length x) (hz : x.z ≤ 200000) : MSt w1 wc X A pv rv' L x := by
  have hT : ∀ k, RB A rv k → SX X A pv rv k := fun k e => .inr e
  have hS := SX.new (X := X) (A := A) (pv := pv) hn
  refine ⟨by rw [List.map_append]; exact hrow, (h.all.turn ho hT hS).snoc ⟨hnd.turn ho hT hS, hnum, href, o1, o2, o3⟩ hk hg, h.box.only ho ?_, own_only h.prow ho ?_, h.small, hz, ?_, h.lowX, h.lowA, h.len⟩
  · rintro (e | e)
    · exact blk_ne12 h.box h.row.box (by decide) e
    · exact blk_apart h.box h.row.row e (by decide) rfl
  · rintro k hk (e | e)
    · exact (blk_apart h.row.box h.prow hk (by decide)) e.symm
    · exact rows_ne h.prow h.row.row hk e (by decide)
  · refine h.low.trans (ho.below h.low.size fun k hk e => ?_)
    rcases e with rfl | e
    · have := h.lowA; omega
    · have := (h.row.row.lt k e).1; omega
end

end Go.Proofs.Yteigkomefehpjaa
