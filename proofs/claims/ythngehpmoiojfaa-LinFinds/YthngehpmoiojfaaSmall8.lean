/- Layer 8: the statements' small machine, as plain reckoning. -/
import Derived.Test.YthngehpmoiojfaaCheckPlain8
namespace Go.Proofs.Ythngehpmoiojfaa
open Go.RowKit

/-- The small machine's state. -/
structure StZ where
  n : Int
  slot : ByteArray
def st0 : StZ := ⟨0, ByteArray.empty⟩
def stV (s : StZ) : List Value := [numV s.n, .string s.slot]
abbrev stA (s : StZ) : Value := .agg (stV s).toArray
def an0 : AnZ := ⟨0, 0, 0, ByteArray.empty, ByteArray.empty, false⟩
def doZ (s : StZ) (x : OpZ) : StZ × AnZ :=
  if x.k = 1 then (⟨s.n + x.s.tmod 100, s.slot⟩, { an0 with a := s.n + x.s.tmod 100 })
  else if x.k = 2 then (⟨s.n, x.p⟩, { an0 with p := s.slot })
  else if x.k = 3 then (if s.slot = ByteArray.empty then (s, { an0 with e := 7 }) else (⟨s.n, ByteArray.empty⟩, { an0 with p := s.slot }))
  else (s, { an0 with b := s.n })
def smallM : MachZ StZ := ⟨doZ⟩
theorem tmod_le (x : Int) : -99 ≤ x.tmod 100 ∧ x.tmod 100 ≤ 99 := by
  have h1 := Int.tmod_lt_of_pos x (b := 100) (by decide)
  have h2 := Int.lt_tmod_of_pos x (b := 100) (by decide)
  omega
/-- A state that d calls may have come to, of payloads of c bytes. -/
structure StOk (c : Nat) (d : Nat) (s : StZ) : Prop where
  lo : -(100 * (d : Int)) ≤ s.n
  hi : s.n ≤ 100 * (d : Int)
  size : s.slot.size ≤ c
theorem StOk.step {c d : Nat} {s : StZ} (h : StOk c d s) {x : OpZ} (hp : x.p.size ≤ c) : StOk c (d + 1) (doZ s x).1 := by
  have h1 := h.lo
  have h2 := h.hi
  have h3 := h.size
  have ht := tmod_le x.s
  unfold doZ
  split
  · exact ⟨by simp only; omega, by simp only; omega, h3⟩
  split
  · exact ⟨by simp only; omega, by simp only; omega, hp⟩
  split
  · split
    · exact ⟨by simp only; omega, by simp only; omega, h3⟩
    · exact ⟨by simp only; omega, by simp only; omega, by simp⟩
  · exact ⟨by simp only; omega, by simp only; omega, h3⟩
theorem stOk0 (c : Nat) : StOk c 0 st0 := ⟨by simp [st0], by simp [st0], by simp [st0]⟩

/-- A number's digits. -/
def digN (n : Nat) : List UInt8 := if h : n < 10 then [UInt8.ofNat (48 + n)] else digN (n / 10) ++ [UInt8.ofNat (48 + n % 10)]
  termination_by n
  decreasing_by omega
theorem digN_low {n : Nat} (h : n < 10) : digN n = [UInt8.ofNat (48 + n)] := by unfold digN; rw [dif_pos h]
theorem digN_high {n : Nat} (h : ¬ n < 10) : digN n = digN (n / 10) ++ digN (n % 10) := by
  rw [digN_low (n := n % 10) (by omega)]
  conv => lhs; unfold digN
  rw [dif_neg h]
def textZ (n : Int) : List UInt8 := if n < 0 then 45 :: digN (-n).toNat else digN n.toNat
def textB (l : List UInt8) : ByteArray := ⟨l.toArray⟩
def keyZ (s : StZ) : ByteArray := textB (textZ s.n ++ 44 :: s.slot.data.toList)
def valN (l : List UInt8) : Nat := l.foldl (fun a d => a * 10 + (d.toNat - 48)) 0
theorem valN_snoc (l : List UInt8) (d : UInt8) : valN (l ++ [d]) = valN l * 10 + (d.toNat - 48) := by simp [valN]
theorem ofNat_dig {k : Nat} (h : k < 10) : (UInt8.ofNat (48 + k)).toNat = 48 + k := by
  rw [UInt8.toNat_ofNat']
  omega
theorem valN_dig (n : Nat) : valN (digN n) = n := by
  induction n using Nat.strongRecOn with
  | _ n ih =>
    by_cases h : n < 10
    · rw [digN_low h]
      have := valN_snoc [] (UInt8.ofNat (48 + n))
      rw [List.nil_append] at this
      rw [this, ofNat_dig h]
      simp [valN]
    · rw [digN_high h, digN_low (n := n % 10) (by omega), valN_snoc, ih (n / 10) (by omega), ofNat_dig (by omega)]
      omega
theorem dig_digits (n : Nat) : ∀ d ∈ digN n, 48 ≤ d.toNat ∧ d.toNat ≤ 57 := by
  induction n using Nat.strongRecOn with
  | _ n ih =>
    by_cases h : n < 10
    · rw [digN_low h]
      intro d hd
      simp only [List.mem_singleton] at hd
      rw [hd, ofNat_dig h]
      omega
    · rw [digN_high h]
      intro d hd
      rcases List.mem_append.1 hd with hd | hd
      · exact ih (n / 10) (by omega) d hd
      · exact ih (n % 10) (by omega) d hd
theorem dig_ne (n : Nat) : digN n ≠ [] := by
  intro e
  by_cases h : n < 10
  · rw [digN_low h] at e; cases e
  · rw [digN_high h, digN_low (n := n % 10) (by omega)] at e
    simp at e
theorem text_bytes (n : Int) : ∀ d ∈ textZ n, d ≠ 44 := by
  intro d hd e
  subst e
  unfold textZ at hd
  split at hd
  · rcases List.mem_cons.1 hd with hd | hd
    · cases hd
    · have := dig_digits _ _ hd
      simp at this
  · have := dig_digits _ _ hd
    simp at this
theorem text_inj {a b : Int} (h : textZ a = textZ b) : a = b := by
  have no : ∀ k : Nat, ∀ l, digN k ≠ 45 :: l := fun k l e => by
    have := dig_digits k 45 (by rw [e]; simp)
    simp at this
  unfold textZ at h
  split at h <;> split at h
  · have h1 := congrArg valN (List.cons.inj h).2
    rw [valN_dig, valN_dig] at h1
    omega
  · exact absurd h.symm (no _ _)
  · exact absurd h (no _ _)
  · have h1 := congrArg valN h
    rw [valN_dig, valN_dig] at h1
    omega
theorem cut_inj : ∀ {a b x y : List UInt8}, (∀ d ∈ a, d ≠ 44) → (∀ d ∈ b, d ≠ 44) → a ++ 44 :: x = b ++ 44 :: y → a = b ∧ x = y
  | [], [], x, y, _, _, h => ⟨rfl, (List.cons.inj h).2⟩
  | [], d :: b, x, y, _, hb, h => absurd (List.cons.inj h).1.symm (hb d (by simp))
  | d :: a, [], x, y, ha, _, h => absurd (List.cons.inj h).1 (ha d (by simp))
  | d :: a, e :: b, x, y, ha, hb, h => by
    obtain ⟨h1, h2⟩ := List.cons.inj h
    obtain ⟨h3, h4⟩ := cut_inj (fun d hd => ha d (by simp [hd])) (fun d hd => hb d (by simp [hd])) h2
    exact ⟨by rw [h1, h3], h4⟩
/-- States of one key are one. -/
theorem key_inj {s t : StZ} (h : keyZ s = keyZ t) : s = t := by
  have h1 : textZ s.n ++ 44 :: s.slot.data.toList = textZ t.n ++ 44 :: t.slot.data.toList := by
    have := congrArg (fun b : ByteArray => b.data.toList) h
    simpa [keyZ, textB] using this
  obtain ⟨h2, h3⟩ := cut_inj (text_bytes _) (text_bytes _) h1
  have h4 : s.slot.data = t.slot.data := by rw [← Array.toArray_toList (xs := s.slot.data), h3, Array.toArray_toList]
  cases s; cases t
  simp only [StZ.mk.injEq]
  refine ⟨text_inj h2, ?_⟩
  rename_i s1 _ s2
  cases s1; cases s2
  simp only at h4
  rw [h4]
theorem dig_len (n : Nat) : ∀ k, n < 10 ^ (k + 1) → (digN n).length ≤ k + 1
  | 0, h => by rw [digN_low (by omega)]; simp
  | k + 1, h => by
    by_cases h1 : n < 10
    · rw [digN_low h1]; simp
    · rw [digN_high h1, List.length_append, digN_low (n := n % 10) (by omega)]
      have := dig_len (n / 10) k (by rw [Nat.pow_succ] at h; omega)
      simp
      omega
theorem key_size {c d : Nat} {s : StZ} (h : StOk c d s) (hd : d ≤ 1000) : (keyZ s).size ≤ c + 10 := by
  have h1 := h.lo
  have h2 := h.hi
  have h3 := h.size
  have h4 : (textZ s.n).length ≤ 9 := by
    unfold textZ
    split
    · have := dig_len (-s.n).toNat 5 (by omega)
      simp
      omega
    · have := dig_len s.n.toNat 5 (by omega)
      omega
  have h5 : s.slot.data.toList.length = s.slot.size := by rw [Array.length_toList]; rfl
  show (textZ s.n ++ 44 :: s.slot.data.toList).toArray.size ≤ c + 10
  rw [List.size_toArray, List.length_append, List.length_cons, h5]
  omega

/-- Where one call stands behind the other, there is one order. -/
theorem only_one {k : Int} : ∀ {l : List Int}, l.Nodup → (∀ x, x ∈ l ↔ x = k) → l = [k]
  | [], _, h => by have := (h k).2 rfl; simp at this
  | [x], _, h => by have := (h x).1 (by simp); rw [this]
  | x :: y :: l, hn, h => by
    have h1 := (h x).1 (by simp)
    have h2 := (h y).1 (by simp)
    rw [h1, h2] at hn
    simp at hn
theorem minZ_nodup (L : List CallZ) (D : List Bool) : (minZ L D).Nodup := by
  rw [min_same]
  unfold refMin
  show List.Pairwise _ _
  rw [List.pairwise_map]
  exact (List.nodup_range.filter _).imp (fun h e => h (by omega))

end Go.Proofs.Ythngehpmoiojfaa
