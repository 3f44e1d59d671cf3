/- Layer 13: forests of nodes in memory; a slice of texts, from any place on. -/
import Derived.Test.YtabgedmocdjkcaaNodeK12
import Derived.Test.YtabgedmocdjkcaaTrieM13
import Derived.Test.YtabgedmocdjkcaaMatch2
namespace Go.Proofs.Ytabgedmocdjkcaa
open Go.RowKit Go.Shelf

/-- A forest lies in memory. -/
def FoIs (S : Nat → Prop) (w : World) : Fo → Prop
  | .nil => True
  | .cons _ b L F R => NdIs S w b L F.ents F.sz ∧ FoIs S w F ∧ FoIs S w R
def NodeIs (S : Nat → Prop) (w : World) : Nd → Prop
  | none => True
  | some x => NdIs S w x.1 x.2.1 x.2.2.ents x.2.2.sz ∧ FoIs S w x.2.2
def ndP : Nd → Value
  | none => .pointer none
  | some x => .pointer (some ⟨x.1, 0, none⟩)
section
variable {S S' T : Nat → Prop} {w w' : World}
theorem FoIs.below (hb : Below w.heap.size w w') : ∀ {F : Fo}, FoIs S w F → FoIs S w' F
  | .nil, _ => trivial
  | .cons _ _ _ _ _, h => ⟨h.1.below hb, h.2.1.below hb, h.2.2.below hb⟩
theorem FoIs.turn (ho : Only T w w') (hT : ∀ k, T k → S k) (hS : ∀ k, k < w.heap.size → S' k → S k) : ∀ {F : Fo}, FoIs S w F → FoIs S' w' F
  | .nil, _ => trivial
  | .cons _ _ _ _ _, h => ⟨h.1.turn ho hT hS, h.2.1.turn ho hT hS, h.2.2.turn ho hT hS⟩
theorem NodeIs.below {o : Nd} (h : NodeIs S w o) (hb : Below w.heap.size w w') : NodeIs S w' o := by
  cases o with
  | none => trivial
  | some x => exact ⟨h.1.below hb, h.2.below hb⟩
theorem NodeIs.turn {o : Nd} (h : NodeIs S w o) (ho : Only T w w') (hT : ∀ k, T k → S k) (hS : ∀ k, k < w.heap.size → S' k → S k) : NodeIs S' w' o := by
  cases o with
  | none => trivial
  | some x => exact ⟨h.1.turn ho hT hS, h.2.turn ho hT hS⟩
theorem NodeIs.kids {o : Nd} (h : NodeIs S w o) : FoIs S w (ndF o) := by
  cases o with
  | none => trivial
  | some x => exact h.2
theorem FoIs.get (k : Key) : ∀ {F : Fo}, FoIs S w F → NodeIs S w (F.get k)
  | .nil, _ => trivial
  | .cons k1 b1 L1 F R, h => by
    by_cases e : k1 = k
    · rw [Fo.get, if_pos e]; exact ⟨h.1, h.2.1⟩
    · rw [Fo.get, if_neg e]; exact FoIs.get k h.2.2
theorem NodeIs.kid {o : Nd} (h : NodeIs S w o) (k : Key) : NodeIs S w ((ndF o).get k) := h.kids.get k
theorem NodeIs.pis {o : Nd} (h : NodeIs S w o) : PIs S w (ndP o) (ndL o) (ndF o).ents (ndN o) := by
  cases o with
  | none => exact .inl ⟨rfl, rfl, rfl, rfl⟩
  | some x => exact .inr ⟨x.1, rfl, by simp only [ndN]; omega, by rw [show ndN (some x) - 1 = x.2.2.sz by simp only [ndN]; omega]; exact h.1⟩
theorem FoIs.drop (k : Key) : ∀ {F : Fo}, FoIs S w F → FoIs S w (F.drop k)
  | .nil, _ => trivial
  | .cons k1 b1 L1 F R, h => by
    by_cases e : k1 = k
    · simp only [Fo.drop, if_pos e]; exact FoIs.drop k h.2.2
    · simp only [Fo.drop, if_neg e]; exact ⟨h.1, h.2.1, FoIs.drop k h.2.2⟩
theorem FoIs.put {k : Key} {b : Nat} {L : List Int} {G : Fo} (h1 : NdIs S w b L G.ents G.sz) (h2 : FoIs S w G) : ∀ {F : Fo}, FoIs S w F → FoIs S w (F.put k b L G)
  | .nil, _ => ⟨h1, h2, trivial⟩
  | .cons k1 b1 L1 F R, h => by
    by_cases e : bl k1 k = true
    · simp only [Fo.put, if_pos e]; exact ⟨h.1, h.2.1, FoIs.put h1 h2 h.2.2⟩
    · simp only [Fo.put, if_neg e]; exact ⟨h1, h2, FoIs.drop k (F := .cons k1 b1 L1 F R) h⟩
theorem kidV_get (k : Key) (F : Fo) : kidV (getE k F.ents) = ndP (F.get k) := by
  rw [fo_get]
  cases F.get k with
  | none => rfl
  | some x => simp [ndB, kidV, ndP, ptrV]
/-- How many a node is, as its block says. -/
def zfW (w : World) (a : Int) : Nat := match w.cell? ⟨a.toNat, 2, none⟩ with
  | some (.int _ z) => z.toNat + 1
  | _ => 0
theorem NdIs.zf {b : Nat} {L : List Int} {E : List Ent} {z : Nat} (h : NdIs S w b L E z) : zfW w (b : Int) = z + 1 := by
  obtain ⟨a1, n1, c1, a2, n2, c2, hb, _⟩ := h
  have := hb.at (o := 2) rfl
  simp only [zfW, Int.toNat_natCast]
  rw [this]; simp
theorem FoIs.sum : ∀ {F : Fo}, FoIs S w F → sumZ (zfW w) F.ents = F.sz
  | .nil, _ => rfl
  | .cons k b L F R, h => by
    have h1 := h.1.zf
    have h2 := FoIs.sum h.2.2
    have e : sumZ (zfW w) (Fo.cons k b L F R).ents = zfW w (b : Int) + sumZ (zfW w) R.ents := by simp [sumZ, Fo.ents]
    rw [e, h1, h2, Fo.sz]; omega
theorem FoIs.each : ∀ {F : Fo}, FoIs S w F → ∀ p ∈ F.ents, (∃ L E, PIs S w (ptrV p.2) L E (zfW w p.2)) ∧ zfW w p.2 ≤ F.sz
  | .nil, _, p, hp => by simp [Fo.ents] at hp
  | .cons k b L F R, h, p, hp => by
    rw [Fo.ents, List.mem_cons] at hp
    rcases hp with rfl | hp
    · refine ⟨⟨L, F.ents, .inr ⟨b, by simp [ptrV], by show 1 ≤ zfW w (b : Int); rw [h.1.zf]; omega, ?_⟩⟩, ?_⟩
      · show NdIs S w b L F.ents (zfW w (b : Int) - 1)
        rw [h.1.zf]; exact h.1
      · show zfW w (b : Int) ≤ _
        rw [h.1.zf, Fo.sz]; omega
    · have := FoIs.each h.2.2 p hp
      exact ⟨this.1, Nat.le_trans this.2 (by rw [Fo.sz]; omega)⟩
end

theorem strV_keyV (x : List UInt8) : strV x = keyV x := rfl
/-- A slice of texts from its first on, and behind it. -/
theorem TextsIn.head {W : World} {a : Option Addr} {k : Key} {r : List Key} (h : TextsIn W a (k :: r)) : ∃ b off, a = some ⟨b, off, none⟩ ∧ b < W.heap.size ∧ W.cell? ⟨b, off, none⟩ = some (keyV k) := by
  obtain ⟨b, off, h1, h2, h3⟩ := h 0 k rfl
  exact ⟨b, off, h1, h2, h3⟩
theorem TextsIn.tail {W : World} {b off : Nat} {k : Key} {r : List Key} (h : TextsIn W (some ⟨b, off, none⟩) (k :: r)) : TextsIn W (some ⟨b, off + 1, none⟩) r := fun i x hx => by
  obtain ⟨b', off', h1, h2, h3⟩ := h (i + 1) x (by simpa using hx)
  cases h1
  exact ⟨b, off + 1, rfl, h2, by rw [Nat.add_assoc, Nat.add_comm 1 i]; exact h3⟩
theorem textsIn_nil (W : World) (a : Option Addr) : TextsIn W a [] := fun i x hx => by simp at hx
end Go.Proofs.Ytabgedmocdjkcaa
