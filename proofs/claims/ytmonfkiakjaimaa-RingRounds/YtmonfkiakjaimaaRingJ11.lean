/- Layer 11 (package ring, of ints): what only reads; nil rings. -/
import Derived.Test.YtmonfkiakjaimaaRingI11
namespace Go.Proofs.Ytmonfkiakjaimaa
open Go.RowKit

section
variable {w : World} {B S : Nat} {x : Rg}
theorem rg_Cap (h : RgIs w B S x) : Calls Try.prog 10 #[.pointer (some ⟨B, 0, none⟩)] w fun e w' => e = .returned (.int .i64 (x.n : Int)) ∧ w = w' := by
  have c0 := h.blk.at (o := 0) rfl
  clear h
  go_enter Try.func10, Try.ntmps10
  go_wp2
  go_ret
  simp
theorem rg_Drops (h : RgIs w B S x) : Calls Try.prog 16 #[.pointer (some ⟨B, 0, none⟩)] w fun e w' => e = .returned (.int .i64 (x.d : Int)) ∧ w = w' := by
  have c3 := h.blk.at (o := 3) rfl
  clear h
  go_enter Try.func16, Try.ntmps16
  go_wp2
  go_ret
  simp
theorem rg_Len (h : RgIs w B S x) (hg : x.g ≤ 1000000) : Calls Try.prog 15 #[.pointer (some ⟨B, 0, none⟩)] w fun e w' => e = .returned (.int .i64 (x.L.length : Int)) ∧ ∃ n, w' = w.drewN n := by
  have c1 := h.blk.at (o := 1) rfl
  have c2 := h.blk.at (o := 2) rfl
  have hf := h.ok.fit
  have hm := h.ok.most
  have hp : (x.p : Int) = (x.g : Int) + (x.L.length : Int) := by unfold Rg.p; omega
  rw [hp] at c1
  generalize x.L.length = l at *
  have hl : (l : Int) ≤ 1024 := by omega
  have hg' : (x.g : Int) ≤ 1000000 := by omega
  generalize x.g = g at *
  clear h hp hf hm hg
  go_enter Try.func15, Try.ntmps15
  go_upto_region 3 with fail
  go_quiet (fail)
  go_wp2
  go_ret
  refine ⟨?_, _, rfl⟩
  simp
  try omega
theorem rg_at (h : RgIs w B S x) (t : Nat) (ht : t ≤ 1000000) : Calls Try.prog 22 #[.pointer (some ⟨B, 0, none⟩), .int .i64 (t : Int)] w fun e w' => e = .returned (.pointer (some ⟨S, t % x.n * 2, none⟩)) ∧ ∃ n, w' = w.drewN n := by
  have c0 := h.blk.at (o := 0) rfl
  have h1 := h.ok.one
  have h2 := h.ok.most
  generalize x.n = n at *
  have hr : (t : Int).tmod (n : Int) = ((t % n : Nat) : Int) := by rw [Int.ofNat_tmod]
  have hlt : t % n < n := Nat.mod_lt _ (by omega)
  generalize t % n = i at *
  have h3 : ¬ n = 0 := by omega
  have h4 : (t : Int) ≤ 1000000 := by omega
  have h5 : (n : Int) ≤ 1024 := by omega
  clear h
  go_enter Try.func22, Try.ntmps22
  go_upto_region 1 with fail
  go_quiet (fail)
  go_wp2
  go_ret
  exact ⟨by simp, _, rfl⟩
theorem rg_Sequence (h : RgIs w B S x) (k : Int) : Calls Try.prog 17 #[.pointer (some ⟨B, 0, none⟩), .int .i64 k] w fun e w' => e = .returned (.int .i64 (seqZ x k)) ∧ w = w' := by
  have C := Lib.hid (rg_Cap h)
  have c0 := h.blk.at (o := 0) rfl
  have hm := h.ok.most
  by_cases h0 : k < 0
  · have hs : seqZ x k = -1 := by unfold seqZ; rw [if_neg (by omega)]
    rw [hs]
    clear h hs c0
    go_enter Try.func17, Try.ntmps17
    go_wp2
    go_ret
    simp
  · by_cases h1 : k < x.n
    · obtain ⟨i, rfl⟩ : ∃ i : Nat, k = (i : Int) := ⟨k.toNat, by omega⟩
      have hi : i < x.n := by omega
      have hs : seqZ x (i : Int) = (slotZ x i).2 := by unfold seqZ; rw [if_pos ⟨by omega, by omega⟩]; rfl
      rw [hs]
      obtain ⟨_, c2, _⟩ := h.at hi
      generalize (slotZ x i).2 = s at *
      generalize x.n = n at *
      clear h hs
      go_enter Try.func17, Try.ntmps17
      go_wp2_with (go_at_call 10; refine C.out.mono ?_; rintro e w' ⟨rfl, rfl⟩)
      go_ret
      simp
    · have hs : seqZ x k = -1 := by unfold seqZ; rw [if_neg (by omega)]
      have hd : decide ((x.n : Int) ≤ k) = true := by simp; omega
      rw [hs]
      generalize x.n = n at *
      clear h hs c0
      go_enter Try.func17, Try.ntmps17
      go_wp2_with (go_at_call 10; refine C.out.mono ?_; rintro e w' ⟨rfl, rfl⟩)
      go_ret
      simp
end
theorem rg_Cap_nil (w : World) : Calls Try.prog 10 #[.pointer none] w fun e w' => e = .returned (.int .i64 0) ∧ w = w' := by
  go_enter Try.func10, Try.ntmps10
  go_wp2
  go_ret
  simp
theorem rg_Len_nil (w : World) : Calls Try.prog 15 #[.pointer none] w fun e w' => e = .returned (.int .i64 0) ∧ w = w' := by
  go_enter Try.func15, Try.ntmps15
  go_wp2
  go_ret
  simp
theorem rg_Drops_nil (w : World) : Calls Try.prog 16 #[.pointer none] w fun e w' => e = .returned (.int .i64 0) ∧ w = w' := by
  go_enter Try.func16, Try.ntmps16
  go_wp2
  go_ret
  simp
theorem rg_Sequence_nil (k : Int) (w : World) : Calls Try.prog 17 #[.pointer none, .int .i64 k] w fun e w' => e = .returned (.int .i64 (-1)) ∧ w = w' := by
  by_cases h0 : k < 0
  · go_enter Try.func17, Try.ntmps17
    go_wp2
    go_ret
    simp
  · have hd : decide ((0 : Int) ≤ k) = true := by simp; omega
    go_enter Try.func17, Try.ntmps17
    go_wp2_with (go_at_call 10; refine (rg_Cap_nil w).mono ?_; rintro e w' ⟨rfl, rfl⟩)
    go_ret
    simp
theorem rg_Put_nil (v : Int) (w : World) : Calls Try.prog 11 #[.pointer none, .int .i64 v] w fun e w' => e = .returned (.bool false) ∧ w = w' := by
  go_enter Try.func11, Try.ntmps11
  go_wp2_with fail
  refine (rg_Cap_nil w).mono ?_
  rintro e w' ⟨rfl, rfl⟩
  go_wp2
  go_ret
  simp
theorem rg_Get_nil (w : World) : Calls Try.prog 13 #[.pointer none] w fun e w' => e = .returned (.tuple #[.int .i64 0, .bool false]) ∧ w = w' := by
  go_enter Try.func13, Try.ntmps13
  go_wp2_with fail
  refine (rg_Cap_nil w).mono ?_
  rintro e w' ⟨rfl, rfl⟩
  go_wp2
  go_ret2
  exact ⟨rfl, rfl⟩

end Go.Proofs.Ytmonfkiakjaimaa
