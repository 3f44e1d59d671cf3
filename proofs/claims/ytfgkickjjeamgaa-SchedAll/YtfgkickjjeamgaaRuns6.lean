/- Layer 6: SchedRuns: small parts. -/
import Derived.Test.YtfgkickjjeamgaaRefRunW6
import Derived.Test.YtfgkickjjeamgaaChainsW6
namespace Go.Proofs.Ytfgkickjjeamgaa
open Go.RowKit

theorem drewN_twice (w : World) (n m : Nat) : (w.drewN n).drewN m = w.drewN (n + m) := by
  induction m with
  | zero => rfl
  | succ m ih => show ((w.drewN n).drewN m).drew = (w.drewN (n + m)).drew; rw [ih]
theorem NumsIn.drewN {w : World} {v : Value} {A : List Int} (h : NumsIn w v A) (n : Nat) : NumsIn (w.drewN n) v A := SliceK.below h (below_draws (Below.refl _ w) n)
theorem ref_Ints_q {u v : Value} {A B : List Int} {w : World} (hu : NumsIn w u A) (hv : NumsIn w v B) (hA : A.length ≤ 1000000) (hB : B.length ≤ 1000000) (n : Nat) :
    Calls Try.prog 11 #[u, v] (w.drewN n) fun e w' => e = .returned (.bool (decide (A = B))) ∧ ∃ m, w' = w.drewN m :=
  (ref_Ints_d u v A B (w.drewN n) (hu.drewN n) (hv.drewN n) hA hB).mono fun _ _ ⟨h1, m, h2⟩ => ⟨h1, n + m, by rw [h2, drewN_twice]⟩

/-- More than is looked at? -/
structure GreatTo (L : List Int) (T : List (List (Int × Int))) (w : World) (e : Ending) (w' : World) : Prop where
  ex : ∃ b, e = .returned (.bool b) ∧ (b = false → L.length ≤ 500 ∧ T.length ≤ 8 ∧ ∀ l ∈ T, l.length ≤ 60)
  same : w = w'
theorem great6 {w : World} {Q : Nat → Prop} {a : Option Addr} {c : Nat} {T : List (List (Int × Int))} (hT : ThrIn Q w a T) (pa : Option Addr) (pc : Nat) (L : List Int) :
    Calls Try.prog 7 #[.slice pa L.length pc, .slice a T.length c] w (GreatTo L T w) := by
  have H := Lib.hid hT
  clear hT
  by_cases h1 : L.length ≤ 500
  · by_cases h2 : T.length ≤ 8
    · have hg1 : decide (500 < (L.length : Int)) = false := decide_eq_false (by omega)
      have hg2 : decide (8 < (T.length : Int)) = false := decide_eq_false (by omega)
      go_enter Try.func7, Try.ntmps7
      go_wp2_with fail
      go_loopw [5] (fun i wr => ∃ (k : Nat), k ≤ T.length ∧ i = .int .i64 k ∧ Hid (∀ l ∈ T.take k, l.length ≤ 60) ∧ w = wr) (fun i _ => T.length - (intOf i).toNat)
      case atStart => exact ⟨0, Nat.zero_le _, rfl, Lib.hid (by simp), rfl⟩
      case round =>
        obtain ⟨k, hk, rfl, K, rfl⟩ := hrel
        by_cases hlt : k < T.length
        · obtain ⟨b, off, a', c', rfl, _, hcell, _⟩ := H.out k _ (List.getElem?_eq_getElem hlt)
          have N := Lib.hid (List.take_succ_eq_append_getElem hlt)
          by_cases h3 : T[k].length ≤ 60
          · have N2 : Hid (∀ l ∈ T.take (k + 1), l.length ≤ 60) := Lib.hid (fun l hl => by
              rw [N.out] at hl
              rcases List.mem_append.1 hl with hl | hl
              · exact K.out l hl
              · simp at hl; subst hl; exact h3)
            clear N
            generalize T[k] = l at *
            go_wp2
            go_roundw
            case rel => exact ⟨k + 1, by omega, by go_num, N2, by simp⟩
            case measure => simp [intOf]; omega
          · clear N
            generalize T[k] = l at *
            go_wp2
            go_ret
            exact ⟨⟨true, rfl, fun h => by simp at h⟩, rfl⟩
        · obtain rfl : k = T.length := by omega
          go_wp2
          go_ret
          exact ⟨⟨false, rfl, fun _ => ⟨h1, h2, by simpa using K.out⟩⟩, rfl⟩
    · have hg1 : decide (500 < (L.length : Int)) = false := decide_eq_false (by omega)
      have hg2 : decide (8 < (T.length : Int)) = true := decide_eq_true (by omega)
      go_enter Try.func7, Try.ntmps7
      go_wp2
      go_ret
      exact ⟨⟨true, rfl, fun h => by simp at h⟩, rfl⟩
  · have hg1 : decide (500 < (L.length : Int)) = true := decide_eq_true (by omega)
    go_enter Try.func7, Try.ntmps7
    go_wp2
    go_ret
    exact ⟨⟨true, rfl, fun h => by simp at h⟩, rfl⟩

/-- What is kept to in a run of instructions. -/
def insJ (s : ISt) : Prop := s.1.done.length + sumLen s.2 ≤ 1000 ∧ ∀ ds ∈ s.2, ∀ d ∈ ds, d.t ≤ 1000000
theorem insJ_ok (s : ISt) (t : Nat) (d : Ins) (ds : List Ins) (h : insJ s) (he : s.2[t]? = some (d :: ds)) : s.1.done.length ≤ 1000000 ∧ d.t ≤ 1000000 :=
  ⟨by have := h.1; omega, h.2 _ (List.mem_of_getElem? he) d (by simp)⟩
theorem insJ_go (s : ISt) (t : Nat) (d : Ins) (ds : List Ins) (h : insJ s) (he : s.2[t]? = some (d :: ds)) : insJ ((insAct s.1 d).1, if (insAct s.1 d).2 = true then s.2.set t ds else s.2) := by
  have hd := act_done s.1 d
  have h1 := h.1
  cases hb : (insAct s.1 d).2
  · rw [hb] at hd
    simp only [Bool.false_eq_true, if_false] at hd ⊢
    exact ⟨by show (insAct s.1 d).1.done.length + sumLen s.2 ≤ 1000; omega, h.2⟩
  · rw [hb] at hd
    simp only [if_true] at hd ⊢
    have h2 := sumLen_set he
    refine ⟨by show (insAct s.1 d).1.done.length + sumLen (s.2.set t ds) ≤ _; omega, fun es hes d' hd' => ?_⟩
    rcases List.mem_or_eq_of_mem_set hes with h3 | rfl
    · exact h.2 es h3 d' hd'
    · exact h.2 _ (List.mem_of_getElem? he) d' (by simp [hd'])
theorem rem_zero_at {T : List (List (Int × Int))} {t : Nat} {l : List (Int × Int)} (hT : T[t]? = some l) : (remOf T (List.replicate T.length 0))[t]? = some (deedsOf t l) := by
  have hlt := (List.getElem?_eq_some_iff.1 hT).1
  rw [remOf_at hT (j := 0) (by rw [List.getElem?_replicate_of_lt hlt])]
  rfl
theorem sumLen_le (r : List (List Ins)) (h : ∀ ds ∈ r, ds.length ≤ 60) : sumLen r ≤ r.length * 60 := by
  induction r with
  | nil => simp [sumLen]
  | cons x r ih =>
    have h1 := ih (fun ds hds => h ds (by simp [hds]))
    have h2 := h x (by simp)
    simp only [sumLen, List.map_cons, List.sum_cons, List.length_cons] at h1 ⊢
    omega
theorem rem_zero {T : List (List (Int × Int))} (hn : T.length ≤ 8) (hl : ∀ l ∈ T, l.length ≤ 60) : sumLen (remOf T (List.replicate T.length 0)) ≤ 480 ∧ ∀ ds ∈ remOf T (List.replicate T.length 0), ∀ d ∈ ds, d.t ≤ 1000000 := by
  have hall : ∀ ds ∈ remOf T (List.replicate T.length 0), ∃ (t : Nat) (l : List (Int × Int)), T[t]? = some l ∧ ds = deedsOf t l := fun ds hds => by
    obtain ⟨t, ht, rfl⟩ := List.mem_iff_getElem.1 hds
    rw [remOf_len] at ht
    have h1 := rem_zero_at (List.getElem?_eq_getElem ht)
    rw [List.getElem?_eq_getElem (by rw [remOf_len]; exact ht)] at h1
    exact ⟨t, T[t], List.getElem?_eq_getElem ht, Option.some.inj h1⟩
  refine ⟨?_, fun ds hds d hd => ?_⟩
  · have h1 := sumLen_le (remOf T (List.replicate T.length 0)) (fun ds hds => by
      obtain ⟨t, l, h2, rfl⟩ := hall ds hds
      rw [deedsOf_len]
      exact hl l (List.mem_of_getElem? h2))
    rw [remOf_len] at h1
    omega
  · obtain ⟨t, l, h2, rfl⟩ := hall ds hds
    obtain ⟨i, hi, rfl⟩ := List.mem_iff_getElem.1 hd
    obtain ⟨p, _, e⟩ := deedsOf_at (List.getElem?_eq_getElem hi)
    rw [e]
    have := (List.getElem?_eq_some_iff.1 h2).1
    show t ≤ _
    omega

end Go.Proofs.Ytfgkickjjeamgaa
