/- Layer 8: the document's example. -/
import Derived.Test.YthngehpmoiojfaaOrder8
import Derived.Test.YthngehpmoiojfaaIntsRef
namespace Go.Proofs.Ythngehpmoiojfaa
open Go.RowKit

def exA : CallZ := ⟨0, 0, ⟨1, 1, ByteArray.empty, ByteArray.empty, false⟩, ⟨0, 2, 0, ByteArray.empty, ByteArray.empty, false⟩, 1, 4⟩
def exB : CallZ := ⟨1, 0, ⟨1, 1, ByteArray.empty, ByteArray.empty, false⟩, ⟨0, 1, 0, ByteArray.empty, ByteArray.empty, false⟩, 2, 3⟩
theorem ex_res : resF [exA, exB] D24 st0 = some [1, 0] := by decide +kernel
theorem ex_cost : costZ [exA, exB] 2 D24 < maxLen := by
  have : costZ [exA, exB] 2 D24 ≤ 100 := by decide +kernel
  simp only [maxLen]
  omega
theorem calls_new (W : World) (L : List CallZ) (hl : L.length ≤ 1000) : CallsIn (W.alloc (.cells (callsV L).toArray 34)) (.slice (some ⟨W.heap.size, 0, none⟩) L.length L.length) L := by
  have hlen : (callsV L).length = L.length * 15 := flat_len callV_len L
  have hb := Blk.new (W := W) (t := 34) (l := callsV L)
  refine CallsIn.own (base := W.heap.size) (n := L.length) ⟨hlen, .inr ⟨W.heap.size, L.length, _, rfl, Nat.le_refl _, hb, Nat.le_refl _, by simp only [maxLen]; omega, by simp [hlen], ?_⟩⟩ rfl
  rw [List.take_of_length_le (by simp [hlen])]
theorem nums_new8 (W : World) (L : List Int) : NumsIn (W.alloc (.cells (L.map numV).toArray 3)) (.slice (some ⟨W.heap.size, 0, none⟩) L.length L.length) L :=
  ⟨by simp, .inr ⟨_, 0, _, rfl, Nat.le_refl _, by simp, fun j v hv => by rw [Nat.zero_add]; exact (Blk.new (t := 3) (l := L.map numV)).at hv⟩⟩
set_option maxHeartbeats 2000000 in
theorem awake8 (w : World) : Calls Try.prog 6 #[] w fun e w' => e = .returned (.bool true) ∧ Below w.heap.size w w' := by
  go_enter Try.func6, Try.ntmps6
  go_wp2_with fail
  refine (law_machine w).mono ?_
  rintro e w1 ⟨rfl, hb⟩
  have B1 := Lib.hid hb
  clear hb
  go_wp2_with fail
  refine (lin_Order (L := [exA, exB]) (c := 0) (calls_new w1 [exA, exB] (by decide)) (by decide) (by decide) (fun y hy => by
    simp at hy
    rcases hy with rfl | rfl <;> decide) ex_cost).mono ?_
  rintro e w2 ⟨r, rfl, hn, hb⟩
  rw [ex_res] at hn ⊢
  replace hn : NumsIn w2 r [1, 0] := hn
  obtain ⟨ra, rc, er, _⟩ := hn.form
  subst er
  have N2 := Lib.hid hn
  have B2 := Lib.hid (((B1.out.alloc B1.out.size (.cells (callsV [exA, exB]).toArray 34))).trans (hb.mono (by have := B1.out.size; simp; omega)))
  clear hn hb
  rw [show (some [(1 : Int), 0]).isSome = true from rfl]
  go_wp2_with fail
  refine (ref_Ints _ _ [1, 0] [1, 0] _ (N2.out.below ((Below.refl _ _).alloc (Nat.le_refl _) _)) (nums_new8 w2 [1, 0]) (by simp) (by simp)).mono ?_
  rintro e w3 ⟨rfl, hb3⟩
  have B3 := Lib.hid ((B2.out.alloc B2.out.size (.cells #[.int .i64 1, .int .i64 0] 3)).trans (hb3.mono (by have := B2.out.size; simp; omega)))
  clear hb3
  go_wp2
  go_ret
  exact ⟨rfl, B3.out⟩

end Go.Proofs.Ythngehpmoiojfaa
