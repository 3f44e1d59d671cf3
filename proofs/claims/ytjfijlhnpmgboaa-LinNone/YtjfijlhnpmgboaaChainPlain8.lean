/- LinNone: calls one behind the other have one order, as plain reckoning. -/
import Derived.Test.YtjfijlhnpmgboaaDead8
namespace Go.Proofs.Ytjfijlhnpmgboaa
open Go.RowKit

def chC (i : Nat) : CallZ := ⟨0, (i : Int), ⟨9, 0, ByteArray.empty, ByteArray.empty, false⟩, ⟨0, 0, 0, ByteArray.empty, ByteArray.empty, false⟩, 2 * (i : Int) + 1, 2 * (i : Int) + 2⟩
def chL (n : Nat) : List CallZ := (List.range n).map chC
theorem chL_len (n : Nat) : (chL n).length = n := by simp [chL]
theorem chL_at {n i : Nat} (h : i < n) : atZ (chL n) (i : Int) = chC i := by
  rw [atZ_nat (by rw [chL_len]; exact h)]
  simp [chL]
theorem chL_succ (n : Nat) : chL (n + 1) = chL n ++ [chC n] := by unfold chL; rw [List.range_succ, List.map_append]; rfl
/-- The first k are done. -/
def Done (n k : Nat) (D : List Bool) : Prop := n ≤ D.length ∧ ∀ i, i < n → doneB D i = decide (i < k)
theorem Done.set {n k : Nat} {D : List Bool} (h : Done n k D) (hk : k < n) : Done n (k + 1) (D.set k true) := by
  refine ⟨by simpa using h.1, fun i hi => ?_⟩
  by_cases e : k = i
  · subst e
    rw [doneB_set_same (by have := h.1; omega)]
    simp
  · rw [doneB_set_ne e, h.2 i hi]
    simp only [decide_eq_decide]
    omega
theorem ch_min {n k : Nat} {D : List Bool} (h : Done n k D) (hk : k < n) : minZ (chL n) D = [(k : Int)] := by
  refine only_one (minZ_nodup _ _) fun x => ?_
  rw [minZ_mem]
  constructor
  · rintro ⟨i, rfl, hf⟩
    have hi : i < n := by have := hf.lt; rwa [chL_len] at this
    have h1 := hf.un
    rw [h.2 i hi] at h1
    simp at h1
    by_cases e : k = i
    · rw [e]
    · exfalso
      have := hf.first k (by rw [chL_len]; exact hk) e (by rw [h.2 k hk]; simp)
      rw [chL_at hk, chL_at hi] at this
      simp only [chC] at this
      omega
  · rintro rfl
    refine ⟨k, rfl, by rw [chL_len]; exact hk, by rw [h.2 k hk]; simp, fun j hj hne hd => ?_⟩
    rw [chL_len] at hj
    rw [h.2 j hj] at hd
    simp at hd
    rw [chL_at hj, chL_at hk]
    simp only [chC]
    omega
theorem ch_ok {n k : Nat} (hk : k < n) : goOk smallM (chL n) st0 (k : Int) = true ∧ goTo smallM (chL n) st0 (k : Int) = st0 := by
  unfold goOk goTo
  rw [chL_at hk]
  exact ⟨decide_eq_true rfl, rfl⟩
def upFrom (k : Nat) : Nat → List Int
  | 0 => []
  | m + 1 => (k : Int) :: upFrom (k + 1) m
theorem ch_conts {n : Nat} : ∀ (m k : Nat) (D : List Bool), Done n k D → k + m = n → conts smallM (chL n) m D st0 = [upFrom k m] ∧ costZ (chL n) m D = m + 1
  | 0, k, D, _, _ => ⟨rfl, rfl⟩
  | m + 1, k, D, h, hk => by
    have hkn : k < n := by omega
    obtain ⟨h1, h2⟩ := ch_ok hkn
    obtain ⟨ih1, ih2⟩ := ch_conts m (k + 1) (D.set k true) (h.set hkn) (by omega)
    constructor
    · rw [conts, ch_min h hkn]
      simp only [List.flatMap_cons, List.flatMap_nil, List.append_nil, h1, if_true, Int.toNat_natCast, h2, ih1]
      rfl
    · rw [cost_sum, ch_min h hkn]
      simp only [List.map_cons, List.map_nil, List.sum_cons, List.sum_nil, stepK, Int.toNat_natCast, ih2]
      omega
theorem done_none (n k : Nat) (h : n ≤ k) : Done n 0 (List.replicate k false) := ⟨by simpa using h, fun i _ => by rw [doneB_replicate]; simp⟩
theorem ch_all {n : Nat} (h : n ≤ 24) : conts smallM (chL n) n (List.replicate 24 false) st0 = [upFrom 0 n] ∧ costZ (chL n) n (List.replicate 24 false) = n + 1 :=
  ch_conts n 0 _ (done_none n 24 h) (by omega)
theorem ch_res {n : Nat} (h : n ≤ 24) : resF (chL n) (List.replicate 24 false) st0 = some (upFrom 0 n) := by
  unfold resF
  rw [nU_none, chL_len, (ch_all h).1]
  rfl
theorem ch_cnt {n : Nat} (h : n ≤ 24) : cntF (chL n) (List.replicate 24 false) st0 = 1 := by
  unfold cntF
  rw [nU_none, chL_len, (ch_all h).1]
  rfl
theorem ch_check {n : Nat} (h : n ≤ 24) : refCheckZ smallM (chL n) st0 (upFrom 0 n) = true := by
  rw [refCheck_mem smallM (chL n) (k := 24) (by rw [chL_len]; exact h), chL_len, (ch_all h).1]
  simp
theorem chL_small {n : Nat} : ∀ y ∈ chL n, y.op.p.size ≤ 0 := fun y hy => by
  unfold chL at hy
  obtain ⟨i, _, rfl⟩ := List.mem_map.1 hy
  exact Nat.le_refl _

end Go.Proofs.Ytjfijlhnpmgboaa
