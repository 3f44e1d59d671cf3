/- LinFinds: the calls that it makes, as plain reckoning. -/
import Derived.Test.YthngehpmoiojfaaOrdPlain8
namespace Go.Proofs.Ythngehpmoiojfaa
open Go.RowKit

def runTo : StZ → List CallZ → StZ → Prop
  | s, [], t => s = t
  | s, c :: r, t => (doZ s c.op).2 = c.an ∧ runTo (doZ s c.op).1 r t
theorem runTo_snoc : ∀ (L : List CallZ) (s t : StZ) (c : CallZ), runTo s L t → (doZ t c.op).2 = c.an → runTo s (L ++ [c]) (doZ t c.op).1
  | [], s, t, c, h, hc => by
    obtain rfl : s = t := h
    exact ⟨hc, rfl⟩
  | d :: L, s, t, c, h, hc => ⟨h.1, runTo_snoc L _ t c h.2 hc⟩
theorem runTo_ok : ∀ (L : List CallZ) (s t : StZ), runTo s L t → runOk s L
  | [], _, _, _ => trivial
  | _ :: L, _, t, h => ⟨h.1, runTo_ok L _ t h.2⟩
/-- Behind k of them. -/
structure Fin8 (k : Nat) (s : StZ) (L : List CallZ) : Prop where
  run : runTo st0 L s
  len : L.length = k
  at_ : ∀ (j : Nat) c, L[j]? = some c → c.fr ≤ 100 * ((j : Int) + 1) + 2000 - j ∧ 100 * ((j : Int) + 1) + 2050 + j ≤ c.to ∧ c.op.p.size ≤ 100
  ok : StOk 100 k s
theorem fin_start : Fin8 0 st0 [] := ⟨rfl, rfl, fun j c h => by simp at h, stOk0 100⟩
theorem Fin8.snoc {k : Nat} {s : StZ} {L : List CallZ} (h : Fin8 k s L) {c : CallZ} (ha : c.an = (doZ s c.op).2) (hf : c.fr ≤ 100 * ((k : Int) + 1) + 2000 - k) (ht : 100 * ((k : Int) + 1) + 2050 + k ≤ c.to) (hp : c.op.p.size ≤ 100) : Fin8 (k + 1) (doZ s c.op).1 (L ++ [c]) := by
  refine ⟨runTo_snoc L _ _ c h.run ha.symm, by simp [h.len], fun j d hd => ?_, h.ok.step hp⟩
  by_cases hj : j < L.length
  · rw [List.getElem?_append_left hj] at hd
    exact h.at_ j d hd
  · rw [List.getElem?_append_right (by omega)] at hd
    have : j - L.length = 0 := by
      have := (List.getElem?_eq_some_iff.1 hd).1
      simp at this; omega
    rw [this] at hd
    simp at hd
    subst hd
    have e : j = k := by rw [← h.len]; omega
    subst e
    exact ⟨hf, ht, hp⟩
theorem Fin8.time {k : Nat} {s : StZ} {L : List CallZ} (h : Fin8 k s L) : L.Pairwise fun a b => ¬ b.to < a.fr := by
  rw [List.pairwise_iff_getElem]
  intro i j hi hj hij
  have h1 := (h.at_ i _ (List.getElem?_eq_getElem hi)).1
  have h2 := (h.at_ j _ (List.getElem?_eq_getElem hj)).2.1
  omega
theorem Fin8.small {k : Nat} {s : StZ} {L : List CallZ} (h : Fin8 k s L) : ∀ y ∈ L, y.op.p.size ≤ 100 := fun y hy => by
  obtain ⟨i, hi, rfl⟩ := List.getElem_of_mem hy
  exact (h.at_ i _ (List.getElem?_eq_getElem hi)).2.2
/-- However they are listed then: what is found is an order. -/
structure Found (L : List CallZ) : Prop where
  res : ∃ t, resF L (List.replicate 24 false) st0 = some t ∧ refCheckZ smallM L st0 t = true
  cost : costZ L L.length (List.replicate 24 false) < maxLen
theorem found_of {k : Nat} {s : StZ} {L L0 : List CallZ} {r : List Int} (h : Fin8 k s L0) (hl : Listed L L0 r) (hn : L.length = L0.length) (hk : k ≤ 14) : Found L := by
  have hlen : L.length ≤ 14 := by rw [hn, h.len]; exact hk
  have hr : r.length = L.length := by
    have := congrArg List.length hl.mp
    simp at this
    omega
  have hmem := listed_order hl hr (k := 24) (by omega) (runTo_ok _ _ _ h.run) h.time
  constructor
  · unfold resF
    rw [nU_none]
    cases hc : conts smallM L L.length (List.replicate 24 false) st0 with
    | nil => rw [hc] at hmem; simp at hmem
    | cons t ts =>
      refine ⟨t, rfl, ?_⟩
      rw [refCheck_mem smallM L (k := 24) (by omega), hc]
      simp
  · have h1 := cost_le L L.length (List.replicate 24 false)
    have h2 : (L.length + 1) ^ L.length ≤ 15 ^ 14 := Nat.le_trans (Nat.pow_le_pow_left (by omega) _) (Nat.pow_le_pow_right (by decide) hlen)
    have h3 : (15 : Nat) ^ 14 = 29192926025390625 := by decide
    simp only [maxLen]
    omega

end Go.Proofs.Ythngehpmoiojfaa
