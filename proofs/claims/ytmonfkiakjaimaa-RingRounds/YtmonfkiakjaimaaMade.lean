/- 'make' of a row of records: what lies in it. Whatever program. -/
import Derived.Test.YtmonfkiakjaimaaBlk
import Derived.Laws.MakeOwn
import Derived.WalkKit
namespace Go.Proofs.Ytmonfkiakjaimaa
open Go.RowKit

theorem run_make_recs {P : Program} {t e : TypeId} {z : Value} {size bytes : Nat} (ht : P.underlying t = some (.slice e)) (hinfo : (P.info? e).map (fun i => (i.zero, i.size, i.bytes)) = some (some z, size, bytes)) (n : Nat) (hb : bytes * n ≤ 281474976710656) (h63 : n ≤ 1000000000000) (w : World) :
    Sem.run P (Instr.makeSlice t (.int .i64 (n : Int)) (.int .i64 (n : Int))) w = .ok (.slice (some ⟨w.heap.size, 0, none⟩) n n) (w.alloc (.cells (madeCells z.cells (n * size)) e)) := by
  obtain ⟨i, hi, hzz⟩ := Option.map_eq_some_iff.1 hinfo
  simp only [Prod.mk.injEq] at hzz
  obtain ⟨hz, hs, hbb⟩ := hzz
  have hb' : (i.bytes : Int) * (n : Int) ≤ 281474976710656 := by
    have h : ((i.bytes * n : Nat) : Int) ≤ 281474976710656 := by rw [hbb]; omega
    rwa [Int.natCast_mul] at h
  have hr := run_make (P := P) w t e i z ht hi hz .i64 .i64 n n (by omega) (Int.le_refl _) hb' (by omega)
  simp only [Int.toNat_natCast, hs] at hr
  exact hr
/-- A row of zero records. -/
theorem recRow_made {α : Type} {c : Nat} {f : α → List Value} {z : Array Value} (x : α) (hz : z.toList = f x) (hc : z.size = c) (n : Nat) : RecRow c f (madeCells z (n * c)).toList (List.replicate n x) := by
  refine ⟨by simp [madeCells], fun i y hy j v hv => ?_⟩
  have hi : i < n := by have := (List.getElem?_eq_some_iff.1 hy).1; simpa using this
  rw [List.getElem?_replicate_of_lt hi] at hy
  cases hy
  rw [← hz] at hv
  have hj : j < c := by have := (List.getElem?_eq_some_iff.1 hv).1; simpa [hc] using this
  have hlt : i * c + j < n * c := by
    have : (i + 1) * c ≤ n * c := Nat.mul_le_mul_right c hi
    rw [Nat.add_mul] at this
    omega
  have hm : (i * c + j) % z.size = j := by rw [hc, Nat.mul_comm, Nat.mul_add_mod, Nat.mod_eq_of_lt hj]
  have hv' : z[j]? = some v := by simpa using hv
  simp only [madeCells, Array.toList_map, List.getElem?_map]
  simp [hlt, hm, getElem!_def, hv']

end Go.Proofs.Ytmonfkiakjaimaa
