/- What the library's strings functions that the program calls answer where what is looked for is one byte: contracts over the program's own text. No conditions. -/
import Derived.Test.YtabgedmocdjkcaaProg
import Derived.Test.YtabgedmocdjkcaaBytes
import Derived.WalkKit
import Derived.Lib.Walk
import Derived.Lib.Strings
import Derived.Lib.Slices
import Derived.Lib.Bytealg
import Derived.Lib.IndexMore
import Derived.Lib.Hide
import Derived.IntWalk
import Derived.BigCall
import Derived.BigGuard
namespace Go.Proofs.Ytabgedmocdjkcaa
open Go.RowKit

set_option maxRecDepth 100000 in
theorem sl_IndexByte (s : ByteArray) (c : Int) (w : World) :
    Calls Try.prog 92 #[.string s, .int .u8 c] w fun e w' => e = .returned (.int .i64 (Lib.indexByte s.data.toList c.toNat.toUInt8)) ∧ w = w' := by
  go_enter Try.func92, Try.ntmps92
  go_wp2
  rw [run_callFunc_extern Try.func99 (by kernel_rfl) (by kernel_rfl) (by kernel_rfl) (e := Extern.BytealgIndexByte.indexByte) (by kernel_rfl), Lib.run_indexByteString]
  simp only [Result.andThen]
  rw [Oper.upon_value]
  go_wp2
  go_ret
  exact ⟨rfl, rfl⟩

theorem strings_IndexByte (s : ByteArray) (c : Int) (w : World) :
    Calls Try.prog 82 #[.string s, .int .u8 c] w fun e w' => e = .returned (.int .i64 (Lib.indexByte s.data.toList c.toNat.toUInt8)) ∧ w = w' := by
  go_enter Try.func82, Try.ntmps82
  go_wp2_with (go_at_call 92; refine (sl_IndexByte _ _ _).mono ?_; rintro e w' ⟨rfl, rfl⟩)
  go_ret
  exact ⟨rfl, rfl⟩

set_option maxRecDepth 100000 in
theorem strings_Count (s : ByteArray) (c : UInt8) (w : World) :
    Calls Try.prog 64 #[.string s, .string ⟨#[c]⟩] w fun e w' => e = .returned (.int .i64 (cntZ s.data.toList c : Int)) ∧ w = w' := by
  go_enter Try.func64, Try.ntmps64
  go_wp2
  rw [run_callFunc_extern Try.func80 (by kernel_rfl) (by kernel_rfl) (by kernel_rfl) (e := Extern.BytealgCount.count) (by kernel_rfl), Lib.run_countString]
  simp only [Result.andThen]
  rw [Oper.upon_value]
  go_wp2
  go_ret
  exact ⟨rfl, rfl⟩

/-- Where a byte stands first. -/
theorem idx_cases (c : UInt8) : ∀ (l : List UInt8), (c ∉ l ∧ Lib.indexByte l c = -1) ∨ ∃ a b, l = a ++ c :: b ∧ c ∉ a ∧ Lib.indexByte l c = a.length
  | [] => .inl ⟨by simp, rfl⟩
  | x :: l => by
    by_cases hx : x = c
    · subst hx
      exact .inr ⟨[], l, rfl, by simp, by simp [Lib.indexByte]⟩
    · have hb : (x == c) = false := by simpa using hx
      rcases idx_cases c l with ⟨h1, h2⟩ | ⟨a, b, h1, h2, h3⟩
      · exact .inl ⟨by simp [h1, Ne.symm hx], by simp [Lib.indexByte, hb, h2]⟩
      · refine .inr ⟨x :: a, b, by rw [h1]; rfl, by simp [h2, Ne.symm hx], ?_⟩
        have hne : ((a.length : Int) == -1) = false := by rw [beq_eq_false_iff_ne]; omega
        simp [Lib.indexByte, hb, h3, hne]
theorem idx_none {c : UInt8} {l : List UInt8} (h : c ∉ l) : Lib.indexByte l c = -1 := by
  rcases idx_cases c l with ⟨_, h2⟩ | ⟨a, b, h1, _⟩
  · exact h2
  · exact absurd (by rw [h1]; simp) h
theorem idx_some {c : UInt8} {a b : List UInt8} (h : c ∉ a) : Lib.indexByte (a ++ c :: b) c = a.length := by
  induction a with
  | nil => simp [Lib.indexByte]
  | cons x a ih =>
    have hx : x ≠ c := fun e => h (by simp [e])
    have hb : (x == c) = false := by simpa using hx
    have hne : ((a.length : Int) == -1) = false := by rw [beq_eq_false_iff_ne]; omega
    simp [Lib.indexByte, hb, ih (fun e => h (List.mem_cons_of_mem _ e)), hne]
theorem idx_neg (l : List UInt8) (c : UInt8) : decide (Lib.indexByte l c < 0) = !hasZ l (c.toNat : Int) := by
  rcases idx_cases c l with ⟨h1, h2⟩ | ⟨a, b, h1, _, h3⟩
  · have : hasZ l (c.toNat : Int) = false := by
      rw [hasZ, List.any_eq_false]
      intro x hx
      simp only [beq_iff_eq]
      intro e
      exact h1 (by rw [← UInt8.toNat_inj.1 (by omega : x.toNat = c.toNat)]; exact hx)
    rw [h2, this]; rfl
  · have : hasZ l (c.toNat : Int) = true := by rw [h1, hasZ_append, hasZ_cons]; simp
    rw [h3, this]; simp

theorem sl_Index (s : ByteArray) (c : UInt8) (w : World) :
    Calls Try.prog 84 #[.string s, .string ⟨#[c]⟩] w fun e w' => e = .returned (.int .i64 (Lib.indexByte s.data.toList c)) ∧ w = w' := by
  by_cases h : ([c] == s.toList) = true
  · have H := Lib.hid (show Lib.indexByte s.data.toList c = 0 by
      rw [Lib.toList_data, beq_iff_eq] at h; rw [← h]; simp [Lib.indexByte])
    go_enter Try.func84, Try.ntmps84
    go_wp2
    go_ret
    exact ⟨by rw [H.out]; rfl, rfl⟩
  · have h : ([c] == s.toList) = false := by simpa using h
    go_enter Try.func84, Try.ntmps84
    go_wp2_with (go_at_call 92; refine (sl_IndexByte _ _ _).mono ?_; rintro e w' ⟨rfl, rfl⟩)
    go_ret
    exact ⟨rfl, rfl⟩

theorem strings_Index (s : ByteArray) (c : UInt8) (w : World) :
    Calls Try.prog 81 #[.string s, .string ⟨#[c]⟩] w fun e w' => e = .returned (.int .i64 (Lib.indexByte s.data.toList c)) ∧ w = w' := by
  go_enter Try.func81, Try.ntmps81
  go_wp2_with (go_at_call 84; refine (sl_Index _ _ _).mono ?_; rintro e w' ⟨rfl, rfl⟩)
  go_ret
  exact ⟨rfl, rfl⟩

/-- strings.Contains of one byte. -/
theorem strings_Contains (s : ByteArray) (c : UInt8) (w : World) :
    Calls Try.prog 93 #[.string s, .string ⟨#[c]⟩] w fun e w' => e = .returned (.bool (hasZ s.data.toList (c.toNat : Int))) ∧ w = w' := by
  have H := Lib.hid (idx_neg s.data.toList c)
  go_enter Try.func93, Try.ntmps93
  go_wp2_with (go_at_call 81; refine (strings_Index _ _ _).mono ?_; rintro e w' ⟨rfl, rfl⟩)
  go_ret
  refine ⟨?_, rfl⟩
  have h := H.out
  cases hz : hasZ s.data.toList (c.toNat : Int) <;> rw [hz] at h <;> simp at h <;> simp [h]

/-- strings.Cut at /, where there is none. -/
theorem sl_Cut_none (s : ByteArray) (w : World) (h : 47 ∉ s.data.toList) :
    Calls Try.prog 70 #[.string s, .string ⟨#[47]⟩] w fun e w' => e = .returned (.tuple #[.string s, .string ⟨#[]⟩, .bool false]) ∧ w = w' := by
  have H := Lib.hid (idx_none h)
  clear h
  go_enter Try.func70, Try.ntmps70
  go_wp2_with (go_at_call 84; refine (sl_Index _ _ _).mono ?_; rintro e w' ⟨rfl, rfl⟩; rw [H.out])
  go_ret3
  exact ⟨rfl, rfl⟩
theorem strings_Cut_none (s : ByteArray) (w : World) (h : 47 ∉ s.data.toList) :
    Calls Try.prog 49 #[.string s, .string ⟨#[47]⟩] w fun e w' => e = .returned (.tuple #[.string s, .string ⟨#[]⟩, .bool false]) ∧ w = w' := by
  have H := Lib.hid h
  clear h
  go_enter Try.func49, Try.ntmps49
  go_wp2_with (go_at_call 70; refine (sl_Cut_none _ _ H.out).mono ?_; rintro e w' ⟨rfl, rfl⟩)
  go_ret3
  exact ⟨rfl, rfl⟩

/-- strings.Cut at /, where there is one. -/
theorem sl_Cut_some (s : ByteArray) (a b : List UInt8) (w : World) (hz : s.size ≤ 1048576) (hs : s.data.toList = a ++ 47 :: b) (ha : 47 ∉ a) :
    Calls Try.prog 70 #[.string s, .string ⟨#[47]⟩] w fun e w' => e = .returned (.tuple #[.string ⟨a.toArray⟩, .string ⟨b.toArray⟩, .bool true]) ∧ w' = w.drew := by
  have H := Lib.hid (show Lib.indexByte s.data.toList 47 = (a.length : Int) by rw [hs]; exact idx_some ha)
  have e1 : s.extract 0 a.length = ⟨a.toArray⟩ := by
    rw [Lib.extract_eq, hs]; simp
  have e2 : s.extract (a.length + 1) s.size = ⟨b.toArray⟩ := by
    rw [Lib.extract_eq, Lib.size_eq, hs, show a ++ 47 :: b = (a ++ [47]) ++ b by simp, List.drop_left' (by simp)]
    rw [List.take_of_length_le (by simp; omega)]
  have E1 := Lib.hid e1
  have E2 := Lib.hid e2
  have hl : a.length + 1 ≤ s.size := by rw [Lib.size_eq, hs]; simp
  have c1 : (0 : Int) ≤ ↑a.length := by omega
  have c2 : (↑a.length : Int) ≤ ↑s.size := by omega
  have c3 : (0 : Int) ≤ ↑a.length + 1 := by omega
  have c4 : (↑a.length + 1 : Int) ≤ ↑s.size := by omega
  have c5 : IntKind.i64.wrap (↑a.length + 1) = ↑a.length + 1 := IntWalk.i64_in _ (by omega)
  have c6 : (↑a.length + 1 : Int).toNat = a.length + 1 := by omega
  clear hs e1 e2
  go_enter Try.func70, Try.ntmps70
  go_wp2_with (go_at_call 84; refine (sl_Index _ _ _).mono ?_; rintro e w' ⟨rfl, rfl⟩; rw [H.out])
  go_region
  go_wp2
  go_ret3
  refine ⟨?_, rfl⟩
  rw [← E1.out, ← E2.out]
  rfl
theorem strings_Cut_some (s : ByteArray) (a b : List UInt8) (w : World) (hz : s.size ≤ 1048576) (hs : s.data.toList = a ++ 47 :: b) (ha : 47 ∉ a) :
    Calls Try.prog 49 #[.string s, .string ⟨#[47]⟩] w fun e w' => e = .returned (.tuple #[.string ⟨a.toArray⟩, .string ⟨b.toArray⟩, .bool true]) ∧ w' = w.drew := by
  have H := Lib.hid hs
  have HA := Lib.hid ha
  clear hs ha
  go_enter Try.func49, Try.ntmps49
  go_wp2_with (go_at_call 70; refine (sl_Cut_some _ a b _ hz H.out HA.out).mono ?_; rintro e w' ⟨rfl, rfl⟩)
  go_ret3
  exact ⟨rfl, rfl⟩
end Go.Proofs.Ytabgedmocdjkcaa
