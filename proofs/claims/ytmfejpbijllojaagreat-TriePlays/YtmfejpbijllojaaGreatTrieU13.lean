/- Layer 13 (package trie): how many nodes are unlike another node's. Made by tools/gen_trieu13.py. -/
import Derived.Test.YtmfejpbijllojaaGreatTrieI13
import Derived.Test.YtmfejpbijllojaaGreatAll3
import Derived.Test.YtmfejpbijllojaaGreatHeldIn
import Derived.LaidEqlPtr
namespace Go.Proofs.YtmfejpbijllojaaGreat
open Go.RowKit Go.Shelf

attribute [local go_sem] Oper.semAt_some
/-- What one kid counts. -/
def kcZ (F G : Fo) (p : Ent) : Nat := ndC (F.get p.1) (G.get p.1)
theorem cnt_le : ∀ (F G : Fo), F.cnt G ≤ F.sz
  | .nil, _ => Nat.le_refl _
  | .cons k b L F R, G => by
    have h1 := cnt_le F (ndF (G.get k))
    have h2 := cnt_le R G
    simp only [Fo.cnt, Fo.sz]
    split <;> omega
theorem ndC_le (o old : Nd) : ndC o old ≤ ndN o := by
  cases o with
  | none => exact Nat.le_refl _
  | some x =>
    have := cnt_le x.2.2 (ndF old)
    simp only [ndC, ndN]
    split <;> omega
theorem cnt_sum : ∀ {F G : Fo}, F.ok → (F.ents.map (kcZ F G)).sum = F.cnt G
  | .nil, _, _ => rfl
  | .cons k b L F R, G, h => by
    have ih := cnt_sum (F := R) (G := G) h.2.2.2.1
    have e : R.ents.map (kcZ (.cons k b L F R) G) = R.ents.map (kcZ R G) := List.map_congr_left fun p hp => by
      have hne : k ≠ p.1 := fun e => out_of h.2.2.2.2 p hp e.symm
      simp only [kcZ, Fo.get, if_neg hne]
    have e1 : kcZ (.cons k b L F R) G (k, (b : Int)) = if ndB (G.get k) = some b then 0 else 1 + F.cnt (ndF (G.get k)) := by
      simp only [kcZ, Fo.get, if_pos, ndC]
    rw [Fo.ents, List.map_cons, List.sum_cons, e, ih, e1, Fo.cnt]
theorem sum_bound {f : Ent → Nat} {M : Nat} (h : ∀ p, f p ≤ M) : ∀ E : List Ent, (E.map f).sum ≤ M * E.length
  | [] => by simp
  | p :: E => by
    have h1 := h p
    have h2 := sum_bound h E
    rw [List.map_cons, List.sum_cons, List.length_cons, Nat.mul_succ]; omega
theorem ent_ptr {F : Fo} {p : Ent} (h : F.ok) (hp : p ∈ F.ents) : ndP (F.get p.1) = ptrV p.2 ∧ ∃ x, F.get p.1 = some x := by
  obtain ⟨b, e, hb⟩ := Alike.self h p hp
  cases hg : F.get p.1 with
  | none => rw [hg] at hb; simp [ndB] at hb
  | some x =>
    rw [hg] at hb
    simp [ndB] at hb
    refine ⟨?_, x, rfl⟩
    rw [e, ← hb]; simp [ndP, ptrV]
theorem ndP_ptr (o : Nd) : ndP o = .pointer ((ndB o).map fun b => ⟨b, 0, none⟩) := by cases o <;> rfl
theorem keeps_below13 {W W' : World} (h : Below W.heap.size W W') : KeepsOthers W W' := ⟨h.size, fun k _ hk _ => (h.block k (Array.getElem?_eq_some_iff.1 hk).1).trans hk⟩
theorem keep_end13 {W15 W2 cur : World} {B N wz : Nat} {k u u' s : Value} (M : Nat) (hu : u = u') (hO : Only (fun k => k = B ∨ N ≤ k) W15 W2) (hBW : Below W2.heap.size W2 cur) (hb : Blk 3 W2 B [k]) (hoff : ∀ g off n c, s = .slice (some ⟨g, off, none⟩) n c → g < wz) (hwB : wz ≤ B) :
    KeepsFrom M W2 (cur.setCell ⟨B, 0, none⟩ u) ∧ KpS s W2 (cur.setCell ⟨B, 0, none⟩ u) ∧ Blk 3 (cur.setCell ⟨B, 0, none⟩ u) B [u'] ∧ Only (fun k => k = B ∨ N ≤ k) W15 (cur.setCell ⟨B, 0, none⟩ u) :=
  ⟨((keeps_below13 hBW).trans (KeepsOthers.setCell _ _ _)).from M, kpS_only (S := fun k => k = B) ((Only.of_below hBW (fun k => k = B)).setCell (p := ⟨B, 0, none⟩) (.inl rfl) u) (fun g off n c hs e => by have := hoff g off n c hs; omega),
    hu ▸ (hb.below hBW hb.lt).set 0 u, (hO.trans (Only.of_below hBW _)).setCell (p := ⟨B, 0, none⟩) (.inl (.inl rfl)) u⟩

theorem run_eql_nil (b : Nat) (W : World) : Sem.run Tryz.prog (binOp BinOp.eql 26 (.pointer (some ⟨b, 0, none⟩)) (.pointer none)) W = .ok (.bool false) W := by kernel_rfl
theorem NdIs.blk {S : Nat → Prop} {w : World} {b : Nat} {L : List Int} {E : List Ent} {z : Nat} (h : NdIs S w b L E z) : ∃ l, Blk 76 w b l := by
  obtain ⟨_, _, _, _, _, _, h, _⟩ := h
  exact ⟨_, h⟩
theorem eql_other {w : World} {b c : Nat} {o : Obj} (hb : ∃ l, Blk 76 w b l) (hc : ∃ l, Blk 76 w c l) (hne : b ≠ c) :
    Sem.run Tryz.prog (binOp BinOp.eql 26 (.pointer (some ⟨b, 0, none⟩)) (.pointer (some ⟨c, 0, none⟩))) (w.alloc o) = .ok (.bool false) (w.alloc o) := by
  obtain ⟨j, hj, hs⟩ : ∃ j, Tryz.prog.info? 76 = some j ∧ j.size ≠ 0 := by
    obtain ⟨j, hj⟩ := Option.isSome_iff_exists.1 (show (Tryz.prog.info? 76).isSome = true by kernel_rfl)
    refine ⟨j, hj, ?_⟩
    have h : (Tryz.prog.info? 76).map (fun i => decide (i.size ≠ 0)) = some true := by kernel_rfl
    rw [hj] at h
    simpa using h
  obtain ⟨l, hl⟩ := hb
  obtain ⟨m, hm⟩ := hc
  exact run_eql_ptr_other _ Tryz.underlying26 hj hs (fun e => hne (by injection e)) (hl.alloc o) (hm.alloc o)

end Go.Proofs.YtmfejpbijllojaaGreat
