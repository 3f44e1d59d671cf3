/- A slice of slices among a law's arguments, by its rows. Whatever program. -/
import Derived.Test.YtfgkickjjeamgaaRecs
namespace Go.Proofs.Ytfgkickjjeamgaa
open Go.ChangeShapes Go.WideShapes Go.ChangeAt Go.RowKit Go.Deep

theorem open_grid {H : Type} {enc : TypeId × Value → H} {P : Program} {t e q : TypeId} (ht : P.underlying t = some (.slice e)) (he : P.underlying e = some (.slice q)) (hc : P.cellsOf e = 1) {W : World} {α : Type} {R : Option Addr → List α → Prop}
    (op : ∀ {a : Option Addr} {len cap : Nat} {d : DataW H} {ps : List MemPlace}, DataW.Trod enc P W 0 (fun _ => true) true e (.slice a len cap) d ps → (∀ x ∈ ps, x.block < W.heap.size) → ∃ l : List α, l.length = len ∧ R a l)
    {a : Option Addr} {len cap : Nat} {d : DataW H} {ps : List MemPlace} (h : DataW.Trod enc P W 0 (fun _ => true) true t (.slice a len cap) d ps) (hlt : ∀ x ∈ ps, x.block < W.heap.size) :
    ∃ T : List (List α), T.length = len ∧ ∀ (k : Nat) l, T[k]? = some l → ∃ b off a' c', a = some ⟨b, off, none⟩ ∧ b < W.heap.size ∧ W.cell? ⟨b, off + k, none⟩ = some (.slice a' l.length c') ∧ R a' l := by
  obtain ⟨fuel, hf⟩ := h
  rcases open_slice1 ht hc hf with ⟨hcs, hx⟩ | ⟨a', len', cap', m, n, V, D, Pl, hcs, _, hl, hm, hmm, hx, hi⟩
  · simp [Value.cells] at hcs
    obtain ⟨rfl, rfl, rfl⟩ := hcs
    exact ⟨[], rfl, fun k l hl => by simp at hl⟩
  simp [Value.cells] at hcs
  obtain ⟨rfl, rfl, rfl⟩ := hcs
  simp only [if_true] at hmm
  simp only [Prod.mk.injEq] at hx
  obtain ⟨rfl, rfl⟩ := hx
  have each : ∀ k, k < len → ∃ l : List α, ∃ (a'' : Option Addr) (c'' : Nat), V k = .slice a'' l.length c'' ∧ R a'' l := fun k hk => by
    have hk' : k < m := by omega
    obtain ⟨hc1, ht1⟩ := hi k hk'
    have hps : ∀ x ∈ Pl k, x.block < W.heap.size := fun x hx => hlt x (List.mem_append_right _ (List.mem_flatMap.2 ⟨k, List.mem_range.2 hk', hx⟩))
    have hv : ∃ a'' l'' c'', V k = .slice a'' l'' c'' := by
      rcases open_slice he ht1 with ⟨h0, _⟩ | ⟨a2, l2, c2, _, _, _, _, h0, _⟩
      · exact ⟨none, 0, 0, by simpa using h0⟩
      · exact ⟨some a2, l2, c2, by simpa using h0⟩
    obtain ⟨a'', l'', c'', hv⟩ := hv
    rw [hv] at ht1
    obtain ⟨l, rfl, hR⟩ := op (a := a'') (len := l'') (cap := c'') ⟨n, ht1⟩ hps
    exact ⟨l, a'', c'', hv, hR⟩
  obtain ⟨F, hF⟩ := choose_lt each
  refine ⟨(List.range len).map F, by simp, fun k l hk => ?_⟩
  have hkl : k < len := by
    have := (List.getElem?_eq_some_iff.1 hk).1
    simpa using this
  simp [hkl] at hk
  subst hk
  obtain ⟨a'', c'', hv, hR⟩ := hF k hkl
  obtain ⟨b, off, spot⟩ := a'
  have h0 := (hi k (by omega)).1
  have hspot : spot = none := by
    have := (hi 0 (by omega)).1
    simpa [Addr.add] using World.cell?_spot this
  subst hspot
  rw [plain_add, hv] at h0
  exact ⟨b, off, a'', c'', rfl, hlt (.cell b off) (List.mem_append_left _ (MemPlace.mem_row.2 ⟨0, by omega, by simp⟩)), h0, hR⟩

end Go.Proofs.Ytfgkickjjeamgaa
