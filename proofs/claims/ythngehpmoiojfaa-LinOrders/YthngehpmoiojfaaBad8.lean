/- Layer 8: bellmanref08.Bad; what a right history gives. -/
import Derived.Test.YthngehpmoiojfaaRight7
import Derived.Test.YthngehpmoiojfaaCheckPlain8
namespace Go.Proofs.Ythngehpmoiojfaa
open Go.RowKit

theorem ref_Bad {w : World} {v : Value} {L : List CallZ} (h : CallsIn w v L) (hL : L.length ≤ 100000) :
    Calls Try.prog 7 #[v] w fun e w' => e = .returned (.bool (!rightR [] L)) ∧ Below w.heap.size w w' := by
  have H := Lib.hid (ref_Right h hL)
  obtain ⟨a, c, rfl, _⟩ := h
  obtain ⟨bv, hbv⟩ : ∃ bv, rightR [] L = bv := ⟨_, rfl⟩
  rw [hbv] at H ⊢
  go_enter Try.func7, Try.ntmps7
  go_wp2_with fail
  refine H.out.mono ?_
  rintro e w' ⟨rfl, n, rfl⟩
  go_wp2
  go_ret
  exact ⟨rfl, below_draws (Below.refl _ _) n⟩
theorem right_to : ∀ (L pre : List CallZ), rightR pre L = true → ∀ c ∈ L, minI ≤ c.to
  | [], _, _, c, hc => by simp at hc
  | d :: r, pre, h, c, hc => by
    rw [rightR_cons] at h
    split at h
    · rename_i hs
      rcases List.mem_cons.1 hc with rfl | hc
      · unfold stepR7 at hs
        simp only [Bool.and_eq_true, decide_eq_true_eq] at hs
        obtain ⟨⟨⟨h1, h2⟩, _⟩, _⟩ := hs
        unfold minI
        omega
      · exact right_to r _ h c hc
    · cases h

end Go.Proofs.Ythngehpmoiojfaa
