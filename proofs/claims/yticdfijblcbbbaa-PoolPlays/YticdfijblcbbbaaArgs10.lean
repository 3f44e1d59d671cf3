/- A list of deeds among a law's arguments (layer 10). -/
import Derived.Test.YticdfijblcbbbaaProg
import Derived.Test.YticdfijblcbbbaaRecs
namespace Go.Proofs.Yticdfijblcbbbaa
open Go.ChangeShapes Go.WideShapes Go.ChangeAt Go.RowKit Go.Deep

theorem open_deeds10 {H : Type} {enc : TypeId × Value → H} {W : World} {a : Option Addr} {len cap : Nat} {d : DataW H} {ps : List MemPlace}
    (h : DataW.Trod enc Try.prog W 0 (fun _ => true) true 22 (.slice a len cap) d ps) (hlt : ∀ x ∈ ps, x.block < W.heap.size) : ∃ L : List (Int × Int × Int), L.length = len ∧ RecsIn 3 (fun p : Int × Int × Int => [.int .i64 p.1, .int .i64 p.2.1, .int .i64 p.2.2]) W a L := by
  obtain ⟨L, hl, hr, hx⟩ := open_recs Try.underlying22 Try.underlying29 (by kernel_rfl) (by kernel_rfl) (by decide) h hlt
  obtain ⟨M, hM, hR⟩ := RecsIn.by (f := fun p : Int × Int × Int => [.int .i64 p.1, .int .i64 p.2.1, .int .i64 p.2.2]) hr fun x hm => by
    obtain ⟨hlen, hf⟩ := hx x hm
    obtain ⟨v0, y0, n0, e0, t0⟩ := hf 0 _ rfl
    obtain ⟨v1, y1, n1, e1, t1⟩ := hf 1 _ rfl
    obtain ⟨v2, y2, n2, e2, t2⟩ := hf 2 _ rfl
    obtain ⟨z0, c0, _⟩ := DataW.trod_int Try.underlying3 t0
    obtain ⟨z1, c1, _⟩ := DataW.trod_int Try.underlying3 t1
    obtain ⟨z2, c2, _⟩ := DataW.trod_int Try.underlying3 t2
    simp only [List.cons.injEq, and_true] at c0 c1 c2
    subst c0 c1 c2
    exact ⟨(z0, z1, z2), (list3 hlen e0 e1 e2).symm⟩
  exact ⟨M, hM.trans hl, hR⟩

end Go.Proofs.Yticdfijblcbbbaa
