/- Layer 12: nodes and the document's nodes, side by side. -/
import Derived.Test.YteigkomefehpjaaNodeK12
import Derived.Test.YteigkomefehpjaaRefNw12
import Derived.Test.YteigkomefehpjaaRefSz12
namespace Go.Proofs.Yteigkomefehpjaa
open Go.RowKit

/-- All that is of a node: its block, how many it is, its three lists, its subscribers, its kids (by their places among all). -/
structure NdR where
  b : Nat
  z : Nat
  t : Tri
  subs : List Int
  kids : List Ent
def bAt (L : List NdR) (x : Int) : Nat := ((L[x.toNat]?).map NdR.b).getD 0
def zAt (L : List NdR) (x : Int) : Nat := ((L[x.toNat]?).map NdR.z).getD 0
/-- Kids by their blocks. -/
def toP (L : List NdR) (E : List Ent) : List Ent := E.map fun p => (p.1, (bAt L p.2 : Int))
def bareZ (r : NdR) : Prop := r.subs = [] ∧ r.kids = []
structure Good (L : List NdR) (i : Nat) (r : NdR) : Prop where
  subs : r.subs.length ≤ i + 1
  kids : r.kids.length ≤ i + 1
  up : Up r.subs
  kup : KUp r.kids
  kid : ∀ p ∈ r.kids, p.1.length ≤ 20 ∧ ∃ j : Nat, p.2 = (j : Int) ∧ j < i ∧ ∃ y, L[j]? = some y ∧ ¬ bareZ y
  size : r.z = 1 + sumZ (zAt L) r.kids
structure One (S : Nat → Prop) (w : World) (L : List NdR) (r : NdR) : Prop where
  nd : NdIs S w r.b r.subs (toP L r.kids) (r.z - 1)
  nums : NumsIn w r.t.1 r.subs
  ref : RefIn w (.agg #[r.t.2.1, r.t.2.2]) r.kids
  off1 : Off S r.t.1
  off2 : Off S r.t.2.1
  off3 : Off S r.t.2.2
/-- All nodes, and the document's list of them at A. -/
structure Core (S : Nat → Prop) (w : World) (lo A : Nat) (v : Value) (L : List NdR) : Prop where
  row : RRow w lo A v (L.map NdR.t)
  all : ∀ (i : Nat) (r : NdR), L[i]? = some r → One S w L r ∧ Good L i r
section
variable {S : Nat → Prop} {w w' : World} {lo A i : Nat} {v : Value} {L : List NdR} {r : NdR}
theorem One.below (h : One S w L r) (hb : Below w.heap.size w w') : One S w' L r := ⟨h.nd.below hb, h.nums.below hb, h.ref.below hb, h.off1, h.off2, h.off3⟩
theorem Core.below (h : Core S w lo A v L) (hb : Below w.heap.size w w') : Core S w' lo A v L := ⟨h.row.below hb, fun i r hr => ⟨(h.all i r hr).1.below hb, (h.all i r hr).2⟩⟩
theorem Good.pos (h : Good L i r) : 1 ≤ r.z := by rw [h.size]; omega
theorem Core.pis (h : Core S w lo A v L) (hr : L[i]? = some r) : PIs S w (.pointer (some ⟨r.b, 0, none⟩)) r.subs (toP L r.kids) r.z := .inr ⟨r.b, rfl, (h.all i r hr).2.pos, (h.all i r hr).1.nd⟩
theorem toP_len (L : List NdR) (E : List Ent) : (toP L E).length = E.length := by simp [toP]
theorem toP_nil (L : List NdR) {E : List Ent} : toP L E = [] ↔ E = [] := by simp [toP]
theorem toP_at (L : List NdR) {E : List Ent} {k : Nat} {p : Ent} (h : E[k]? = some p) : (toP L E)[k]? = some (p.1, (bAt L p.2 : Int)) := by simp [toP, h]
theorem bAt_of {j : Nat} {y : NdR} (h : L[j]? = some y) : bAt L (j : Int) = y.b := by simp [bAt, h]
theorem zAt_of {j : Nat} {y : NdR} (h : L[j]? = some y) : zAt L (j : Int) = y.z := by simp [zAt, h]
theorem own_of (hr : L[i]? = some r) : ownT (L.map NdR.t) (i : Int) = r.t := by
  rw [ownT, if_neg (by omega)]
  simp [hr]
theorem Core.own_ok (h : Core S w lo A v L) (hr : L[i]? = some r) : TriOk r.t := h.row.ok _ (List.mem_map.2 ⟨r, List.mem_of_getElem? hr, rfl⟩)
end

end Go.Proofs.Yteigkomefehpjaa
