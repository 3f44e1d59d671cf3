/- Layer 5 (package lock): a lock anywhere in a block: contracts over the program's text. -/
import Derived.Test.YthhhbcjnihnlmaaCellAt
namespace Go.Proofs.Ythhhbcjnihnlmaa
open Go.RowKit

/-- A try and a free by owner of a lock that is held by own (0: free). -/
def tryB (own owner : Int) : Bool := decide (own = 0 ∧ 1 ≤ owner)
def tryO (own owner : Int) : Int := if own = 0 ∧ 1 ≤ owner then owner else own
def tryC (own owner cnt : Int) : Int := if own = 0 ∧ 1 ≤ owner then cnt + 1 else cnt
def freeE (own owner : Int) : Int := if own = owner ∧ 1 ≤ owner then 0 else 9
def freeO (own owner : Int) : Int := if own = owner ∧ 1 ≤ owner then 0 else own

/-- A lock's three cells: who holds it, how often its cell was accessed, how often it was held. -/
structure LockAt (t : TypeId) (W : World) (B o : Nat) (l : List Value) (own acc cnt : Int) : Prop where
  blk : Blk t W B l
  own : l[o]? = some (.int .i64 own)
  acc : l[o + 1]? = some (.int .i64 acc)
  cnt : l[o + 2]? = some (.int .i64 cnt)
/-- What a deed on it leaves. -/
structure LockTo (t : TypeId) (B o : Nat) (l : List Value) (own acc cnt : Int) (w w' : World) : Prop where
  ex : ∃ l', LockAt t w' B o l' own acc cnt ∧ But (fun k => o ≤ k ∧ k < o + 3) l l'
  only : Only (· = B) w w'

theorem valid_any (x : Int) (w : World) : Calls Try.prog 21 #[.int .i64 x] w fun e w' => e = .returned (.bool (decide (0 < x))) ∧ w = w' := by
  go_enter Try.func21, Try.ntmps21
  go_wp2
  go_ret
  exact ⟨rfl, rfl⟩
theorem valid_no (x : Int) (w : World) (h : x < 1) : Calls Try.prog 21 #[.int .i64 x] w fun e w' => e = .returned (.bool false) ∧ w = w' :=
  (valid_any x w).mono fun e w' ⟨h1, h2⟩ => ⟨by rw [h1, show decide (0 < x) = false by simp; omega], h2⟩
theorem valid_yes (x : Int) (w : World) (h : 1 ≤ x) : Calls Try.prog 21 #[.int .i64 x] w fun e w' => e = .returned (.bool true) ∧ w = w' :=
  (valid_any x w).mono fun e w' ⟨h1, h2⟩ => ⟨by rw [h1, show decide (0 < x) = true by simp; omega], h2⟩

theorem lock_Owner {t : TypeId} {B o : Nat} {l : List Value} {own acc cnt : Int} {w : World} (h : LockAt t w B o l own acc cnt) :
    Calls Try.prog 16 #[.pointer (some ⟨B, o, none⟩)] w fun e w' => e = .returned (.int .i64 own) ∧ w = w' := by
  have H := Lib.hid h
  clear h
  go_enter Try.func16, Try.ntmps16
  go_wp2_with fail
  refine (peek_at H.out.blk H.out.own).mono ?_
  rintro e w' ⟨rfl, rfl⟩
  go_wp2
  go_ret
  exact ⟨rfl, rfl⟩
theorem lock_Owner_nil (w : World) : Calls Try.prog 16 #[.pointer none] w fun e w' => e = .returned (.int .i64 0) ∧ w = w' := by
  go_enter Try.func16, Try.ntmps16
  go_wp2
  go_ret
  exact ⟨rfl, rfl⟩
theorem lock_Count {t : TypeId} {B o : Nat} {l : List Value} {own acc cnt : Int} {w : World} (h : LockAt t w B o l own acc cnt) :
    Calls Try.prog 17 #[.pointer (some ⟨B, o, none⟩)] w fun e w' => e = .returned (.int .i64 cnt) ∧ w = w' := by
  have c2 := h.blk.at h.cnt
  clear h
  go_enter Try.func17, Try.ntmps17
  go_wp2
  go_ret
  exact ⟨rfl, rfl⟩
theorem lock_Count_nil (w : World) : Calls Try.prog 17 #[.pointer none] w fun e w' => e = .returned (.int .i64 0) ∧ w = w' := by
  go_enter Try.func17, Try.ntmps17
  go_wp2
  go_ret
  exact ⟨rfl, rfl⟩

theorem LockTo.same {t : TypeId} {B o : Nat} {l : List Value} {own acc cnt : Int} {w : World} (h : LockAt t w B o l own acc cnt) : LockTo t B o l own acc cnt w w := ⟨⟨l, h, But.refl _ _⟩, Only.refl _ _⟩
/-- One access more, and nothing else. -/
theorem LockAt.acc_set {t : TypeId} {B o : Nat} {l : List Value} {own acc cnt : Int} {w : World} (h : LockAt t w B o l own acc cnt) {w' : World} (a : Int) (hb : Blk t w' B (l.set (o + 1) (.int .i64 a))) (ho : Only (· = B) w w') : LockTo t B o l own a cnt w w' :=
  ⟨⟨_, ⟨hb, set_ne _ (by omega) h.own, set_eq _ h.acc, set_ne _ (by omega) h.cnt⟩, (But.refl _ l).set ⟨by omega, by omega⟩ _⟩, ho⟩
theorem LockAt.own_set {t : TypeId} {B o : Nat} {l : List Value} {own acc cnt : Int} {w : World} (h : LockAt t w B o l own acc cnt) {w' : World} (a x : Int) (hb : Blk t w' B ((l.set (o + 1) (.int .i64 a)).set o (.int .i64 x))) : LockAt t w' B o ((l.set (o + 1) (.int .i64 a)).set o (.int .i64 x)) x a cnt :=
  ⟨hb, set_eq _ (set_ne _ (by omega) h.own), set_ne _ (by omega) (set_eq _ h.acc), set_ne _ (by omega) (set_ne _ (by omega) h.cnt)⟩
theorem But.own_set (l : List Value) (o : Nat) (a x : Value) : But (fun k => o ≤ k ∧ k < o + 3) l ((l.set (o + 1) a).set o x) :=
  ((But.refl _ l).set ⟨by omega, by omega⟩ _).set ⟨by omega, by omega⟩ _

theorem LockAt.drewN {t : TypeId} {W : World} {B o : Nat} {l : List Value} {own acc cnt : Int} (h : LockAt t W B o l own acc cnt) (n : Nat) : LockAt t (W.drewN n) B o l own acc cnt := ⟨h.blk.drewN n, h.own, h.acc, h.cnt⟩
theorem lock_Owner_q {t : TypeId} {B o : Nat} {l : List Value} {own acc cnt : Int} {w : World} (h : LockAt t w B o l own acc cnt) (n : Nat) :
    Calls Try.prog 16 #[.pointer (some ⟨B, o, none⟩)] (w.drewN n) fun e w' => e = .returned (.int .i64 own) ∧ ∃ m, w' = w.drewN m := (lock_Owner (h.drewN n)).mono fun _ _ h => ⟨h.1, n, h.2.symm⟩
theorem lock_Count_q {t : TypeId} {B o : Nat} {l : List Value} {own acc cnt : Int} {w : World} (h : LockAt t w B o l own acc cnt) (n : Nat) :
    Calls Try.prog 17 #[.pointer (some ⟨B, o, none⟩)] (w.drewN n) fun e w' => e = .returned (.int .i64 cnt) ∧ ∃ m, w' = w.drewN m := (lock_Count (h.drewN n)).mono fun _ _ h => ⟨h.1, n, h.2.symm⟩

/-- What a try tells and leaves. -/
structure Tried (t : TypeId) (B o : Nat) (l : List Value) (own acc cnt owner : Int) (w : World) (e : Ending) (w' : World) : Prop where
  told : e = .returned (.bool (tryB own owner))
  to : ∃ a, acc ≤ a ∧ a ≤ acc + 1 ∧ LockTo t B o l (tryO own owner) a (tryC own owner cnt) w w'
theorem lock_Try {t : TypeId} {B o : Nat} {l : List Value} {own acc cnt : Int} {w : World} (owner : Int) (h : LockAt t w B o l own acc cnt) (h0 : 0 ≤ acc) (h1 : acc ≤ 1000000) (h2 : 0 ≤ cnt) (h3 : cnt ≤ 1000000) :
    Calls Try.prog 14 #[.pointer (some ⟨B, o, none⟩), .int .i64 owner] w (Tried t B o l own acc cnt owner w) := by
  have H := Lib.hid h
  clear h
  by_cases hv : 1 ≤ owner
  · by_cases hz : own = 0
    · subst hz
      have F := Lib.hid (show tryB 0 owner = true ∧ tryO 0 owner = owner ∧ tryC 0 owner cnt = cnt + 1 by simp [tryB, tryO, tryC, hv])
      go_enter Try.func14, Try.ntmps14
      go_wp2_with fail
      refine (valid_yes owner w hv).mono ?_
      rintro e w' ⟨rfl, rfl⟩
      go_wp2_with fail
      refine (cas_at_yes owner H.out.blk H.out.own H.out.acc h0 (by omega)).mono ?_
      rintro e w1 ⟨rfl, hb, ho⟩
      have k := H.out.own_set (acc + 1) owner hb
      have c2 := k.blk.at k.cnt
      have f2 := k.blk.frozen (o + 2)
      have K := Lib.hid k
      have O := Lib.hid ho
      clear k hb ho
      go_wp2
      go_ret
      refine ⟨by rw [F.out.1]; rfl, acc + 1, by omega, by omega, ⟨⟨_, ⟨K.out.blk.set (o + 2) (.int .i64 (cnt + 1)), ?_, ?_, ?_⟩, (But.own_set l o _ _).set ⟨by omega, by omega⟩ _⟩, O.out.setCell (p := ⟨B, o + 2, none⟩) (.inl rfl) _⟩⟩
      · rw [F.out.2.1]; exact set_ne _ (by omega) K.out.own
      · exact set_ne _ (by omega) K.out.acc
      · rw [F.out.2.2]; exact set_eq _ K.out.cnt
    · have F := Lib.hid (show tryB own owner = false ∧ tryO own owner = own ∧ tryC own owner cnt = cnt by simp [tryB, tryO, tryC, hz])
      have Z := Lib.hid hz
      clear hz
      go_enter Try.func14, Try.ntmps14
      go_wp2_with fail
      refine (valid_yes owner w hv).mono ?_
      rintro e w' ⟨rfl, rfl⟩
      go_wp2_with fail
      refine (cas_at_no 0 owner H.out.blk H.out.own H.out.acc h0 (by omega) Z.out).mono ?_
      rintro e w1 ⟨rfl, hb, ho⟩
      have K := Lib.hid (H.out.acc_set (acc + 1) hb ho)
      clear hb ho
      go_wp2
      go_ret
      exact ⟨by rw [F.out.1]; rfl, acc + 1, by omega, by omega, by rw [F.out.2.1, F.out.2.2]; exact K.out⟩
  · have F := Lib.hid (show tryB own owner = false ∧ tryO own owner = own ∧ tryC own owner cnt = cnt by simp [tryB, tryO, tryC, hv])
    go_enter Try.func14, Try.ntmps14
    go_wp2_with fail
    refine (valid_no owner w (by omega)).mono ?_
    rintro e w' ⟨rfl, rfl⟩
    go_wp2
    go_ret
    exact ⟨by rw [F.out.1]; rfl, acc, by omega, by omega, by rw [F.out.2.1, F.out.2.2]; exact LockTo.same H.out⟩
theorem lock_Try_nil (owner : Int) (w : World) : Calls Try.prog 14 #[.pointer none, .int .i64 owner] w fun e w' => e = .returned (.bool false) ∧ w = w' := by
  go_enter Try.func14, Try.ntmps14
  go_wp2
  go_ret
  exact ⟨rfl, rfl⟩

/-- What a free tells and leaves. -/
structure Freed (t : TypeId) (B o : Nat) (l : List Value) (own acc cnt owner : Int) (w : World) (e : Ending) (w' : World) : Prop where
  told : e = .returned (.int .i64 (freeE own owner))
  to : ∃ a, acc ≤ a ∧ a ≤ acc + 1 ∧ LockTo t B o l (freeO own owner) a cnt w w'
theorem lock_Free {t : TypeId} {B o : Nat} {l : List Value} {own acc cnt : Int} {w : World} (owner : Int) (h : LockAt t w B o l own acc cnt) (h0 : 0 ≤ acc) (h1 : acc ≤ 1000000) :
    Calls Try.prog 12 #[.pointer (some ⟨B, o, none⟩), .int .i64 owner] w (Freed t B o l own acc cnt owner w) := by
  have H := Lib.hid h
  clear h
  by_cases hv : 1 ≤ owner
  · by_cases hz : own = owner
    · subst hz
      have F := Lib.hid (show freeE own own = 0 ∧ freeO own own = 0 by simp [freeE, freeO, hv])
      go_enter Try.func12, Try.ntmps12
      go_wp2_with fail
      refine (valid_yes own w hv).mono ?_
      rintro e w' ⟨rfl, rfl⟩
      go_wp2_with fail
      refine (cas_at_yes 0 H.out.blk H.out.own H.out.acc h0 (by omega)).mono ?_
      rintro e w1 ⟨rfl, hb, ho⟩
      have K := Lib.hid (H.out.own_set (acc + 1) 0 hb)
      have O := Lib.hid ho
      clear hb ho
      go_wp2
      go_ret
      exact ⟨by rw [F.out.1]; rfl, acc + 1, by omega, by omega, ⟨⟨_, by rw [F.out.2]; exact K.out, But.own_set l o _ _⟩, O.out⟩⟩
    · have F := Lib.hid (show freeE own owner = 9 ∧ freeO own owner = own by simp [freeE, freeO, hz])
      have Z := Lib.hid hz
      clear hz
      go_enter Try.func12, Try.ntmps12
      go_wp2_with fail
      refine (valid_yes owner w hv).mono ?_
      rintro e w' ⟨rfl, rfl⟩
      go_wp2_with fail
      refine (cas_at_no owner 0 H.out.blk H.out.own H.out.acc h0 (by omega) Z.out).mono ?_
      rintro e w1 ⟨rfl, hb, ho⟩
      have K := Lib.hid (H.out.acc_set (acc + 1) hb ho)
      clear hb ho
      go_wp2
      go_ret
      exact ⟨by rw [F.out.1]; rfl, acc + 1, by omega, by omega, by rw [F.out.2]; exact K.out⟩
  · have F := Lib.hid (show freeE own owner = 9 ∧ freeO own owner = own by simp [freeE, freeO, hv])
    go_enter Try.func12, Try.ntmps12
    go_wp2_with fail
    refine (valid_no owner w (by omega)).mono ?_
    rintro e w' ⟨rfl, rfl⟩
    go_wp2
    go_ret
    exact ⟨by rw [F.out.1]; rfl, acc, by omega, by omega, by rw [F.out.2]; exact LockTo.same H.out⟩
theorem lock_Free_nil (owner : Int) (w : World) : Calls Try.prog 12 #[.pointer none, .int .i64 owner] w fun e w' => e = .returned (.int .i64 9) ∧ w = w' := by
  go_enter Try.func12, Try.ntmps12
  go_wp2
  go_ret
  exact ⟨rfl, rfl⟩

end Go.Proofs.Ythhhbcjnihnlmaa
