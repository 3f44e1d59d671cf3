/- A list of deeds among a law's arguments (layer 12). -/
import Derived.Test.YteigkomefehpjaaProg
import Derived.Test.YteigkomefehpjaaRecs
import Derived.Test.YteigkomefehpjaaFind3
namespace Go.Proofs.Yteigkomefehpjaa
open Go.ChangeShapes Go.WideShapes Go.ChangeAt Go.RowKit Go.Deep

/-- A deed: its kind, on which, the subscriber, which kid, the level. -/
structure Dd where
  kind : Int
  on : Int
  sub : Int
  kid : Int
  lev : Key
deriving Inhabited
abbrev ddC (d : Dd) : List Value := [.int .i64 d.kind, .int .i64 d.on, .int .i64 d.sub, .int .i64 d.kid, keyV d.lev]
theorem list5 {α : Type} {x : List α} (h : x.length = 5) {a b c d e : α} (h0 : x[0]? = some a) (h1 : x[1]? = some b) (h2 : x[2]? = some c) (h3 : x[3]? = some d) (h4 : x[4]? = some e) : x = [a, b, c, d, e] := by
  match x, h with
  | [_, _, _, _, _], _ =>
    simp at h0 h1 h2 h3 h4
    simp [h0, h1, h2, h3, h4]
theorem open_deeds12 {H : Type} {enc : TypeId × Value → H} {W : World} {a : Option Addr} {len cap : Nat} {d : DataW H} {ps : List MemPlace}
    (h : DataW.Trod enc Try.prog W 0 (fun _ => true) true 22 (.slice a len cap) d ps) (hlt : ∀ x ∈ ps, x.block < W.heap.size) : ∃ L : List Dd, L.length = len ∧ RecsIn 5 ddC W a L := by
  obtain ⟨L, hl, hr, hx⟩ := open_recs Try.underlying22 Try.underlying32 (by kernel_rfl) (by kernel_rfl) (by decide) h hlt
  obtain ⟨M, hM, hR⟩ := RecsIn.by (f := ddC) hr fun x hm => by
    obtain ⟨hlen, hf⟩ := hx x hm
    obtain ⟨v0, y0, n0, e0, t0⟩ := hf 0 _ rfl
    obtain ⟨v1, y1, n1, e1, t1⟩ := hf 1 _ rfl
    obtain ⟨v2, y2, n2, e2, t2⟩ := hf 2 _ rfl
    obtain ⟨v3, y3, n3, e3, t3⟩ := hf 3 _ rfl
    obtain ⟨v4, y4, n4, e4, t4⟩ := hf 4 _ rfl
    obtain ⟨z0, c0, _⟩ := DataW.trod_int Try.underlying3 t0
    obtain ⟨z1, c1, _⟩ := DataW.trod_int Try.underlying3 t1
    obtain ⟨z2, c2, _⟩ := DataW.trod_int Try.underlying3 t2
    obtain ⟨z3, c3, _⟩ := DataW.trod_int Try.underlying3 t3
    obtain ⟨s4, c4, _⟩ := DataW.trod_string Try.underlying9 t4
    simp only [List.cons.injEq, and_true] at c0 c1 c2 c3 c4
    subst c0 c1 c2 c3 c4
    exact ⟨⟨z0, z1, z2, z3, s4.data.toList⟩, (list5 hlen e0 e1 e2 e3 e4).symm⟩
  exact ⟨M, hM.trans hl, hR⟩

end Go.Proofs.Yteigkomefehpjaa
