/- Threads of instructions among a law's arguments. -/
import Derived.Test.YtfgkickjjeamgaaGrid
import Derived.Test.YtfgkickjjeamgaaChains6
namespace Go.Proofs.Ytfgkickjjeamgaa
open Go.ChangeShapes Go.WideShapes Go.ChangeAt Go.RowKit Go.Deep

abbrev encI (p : Int × Int) : List Value := [numV p.1, numV p.2]
theorem open_instrs {H : Type} {enc : TypeId × Value → H} {W : World} {a : Option Addr} {len cap : Nat} {d : DataW H} {ps : List MemPlace}
    (h : DataW.Trod enc Try.prog W 0 (fun _ => true) true 41 (.slice a len cap) d ps) (hlt : ∀ x ∈ ps, x.block < W.heap.size) : ∃ L : List (Int × Int), L.length = len ∧ RecsIn 2 encI W a L := by
  obtain ⟨L, hl, hr, hx⟩ := open_recs Try.underlying41 Try.underlying43 (by kernel_rfl) (by kernel_rfl) (by decide) h hlt
  obtain ⟨M, hM, hR⟩ := RecsIn.by (f := encI) hr fun x hm => by
    obtain ⟨hlen, hf⟩ := hx x hm
    obtain ⟨v0, y0, n0, e0, t0⟩ := hf 0 _ rfl
    obtain ⟨v1, y1, n1, e1, t1⟩ := hf 1 _ rfl
    obtain ⟨z0, c0, _⟩ := DataW.trod_int Try.underlying3 t0
    obtain ⟨z1, c1, _⟩ := DataW.trod_int Try.underlying3 t1
    simp only [List.cons.injEq, and_true] at c0 c1
    subst c0 c1
    exact ⟨(z0, z1), (list2 hlen e0 e1).symm⟩
  exact ⟨M, hM.trans hl, hR⟩
theorem open_threads {H : Type} {enc : TypeId × Value → H} {W : World} {a : Option Addr} {len cap : Nat} {d : DataW H} {ps : List MemPlace}
    (h : DataW.Trod enc Try.prog W 0 (fun _ => true) true 23 (.slice a len cap) d ps) (hlt : ∀ x ∈ ps, x.block < W.heap.size) : ∃ T : List (List (Int × Int)), T.length = len ∧ ThrIn (fun k => k < W.heap.size) W a T := by
  obtain ⟨T, hl, hT⟩ := open_grid Try.underlying23 Try.underlying41 (by kernel_rfl) (fun h1 h2 => open_instrs h1 h2) h hlt
  refine ⟨T, hl, fun t l ht => ?_⟩
  obtain ⟨b, off, a', c', h1, h2, h3, h4⟩ := hT t l ht
  refine ⟨b, off, a', c', h1, h2, h3, fun i p hp => ?_⟩
  obtain ⟨b', off', k1, k2, k3⟩ := h4 i p hp
  exact ⟨b', off', k1, k2, k3 0 _ rfl, k3 1 _ rfl⟩

end Go.Proofs.Ytfgkickjjeamgaa
