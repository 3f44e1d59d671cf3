/- Layer 5: groups of locks. -/
import Derived.Test.YthhhbcjnihnlmaaLock5
import Derived.Test.YthhhbcjnihnlmaaNums
import Derived.Test.YthhhbcjnihnlmaaMade
import Derived.Test.YthhhbcjnihnlmaaBase
import Derived.Maps.AppendAt
import Derived.RangeFuncBox
import Derived.Deep.AppendLies
namespace Go.Proofs.Ythhhbcjnihnlmaa
open Go.RowKit

/-- A lock: who holds it, how often its cell was accessed, how often it was held. -/
structure LS where
  own : Int
  acc : Int
  cnt : Int
def encL (s : LS) : List Value := [.int .i64 s.own, .int .i64 s.acc, .int .i64 s.cnt]
theorem infoLock : (Try.prog.info? 47).map (fun i => (i.zero, i.size, i.bytes)) = some (some (.agg #[.int .i64 0, .int .i64 0, .int .i64 0]), 3, 24) := by kernel_rfl

/-- A group at G, its locks in block B. -/
structure GroupIs (W : World) (G B : Nat) (L : List LS) : Prop where
  head : ∃ a, Blk 51 W G [.slice a L.length L.length] ∧ (L ≠ [] → a = some ⟨B, 0, none⟩)
  row : L ≠ [] → ∃ l, Blk 47 W B l ∧ RecRow 3 encL l L ∧ B ≠ G
theorem GroupIs.only {W W' : World} {G B : Nat} {L : List LS} {S : Nat → Prop} (h : GroupIs W G B L) (ho : Only S W W') (hG : ¬ S G) (hB : ¬ S B) : GroupIs W' G B L := by
  obtain ⟨⟨a, h1, h2⟩, h3⟩ := h
  exact ⟨⟨a, h1.only ho hG, h2⟩, fun hne => by obtain ⟨l, h4, h5⟩ := h3 hne; exact ⟨l, h4.only ho hB, h5⟩⟩
theorem GroupIs.below {W W' : World} {G B : Nat} {L : List LS} (h : GroupIs W G B L) (hb : Below W.heap.size W W') : GroupIs W' G B L := h.only (Only.of_below hb (fun _ => False)) (fun h => h) (fun h => h)
/-- The lock i. -/
theorem GroupIs.lock {W : World} {G B : Nat} {L : List LS} (h : GroupIs W G B L) {i : Nat} {s : LS} (hs : L[i]? = some s) : ∃ l, LockAt 47 W B (i * 3) l s.own s.acc s.cnt ∧ RecRow 3 encL l L ∧ B ≠ G := by
  obtain ⟨l, h4, h5, h6⟩ := h.row (by rintro rfl; simp at hs)
  exact ⟨l, ⟨h4, h5.at_ i s hs 0 _ rfl, h5.at_ i s hs 1 _ rfl, h5.at_ i s hs 2 _ rfl⟩, h5, h6⟩
/-- A deed on the lock i. -/
theorem GroupIs.turn {W W' : World} {G B : Nat} {L : List LS} (h : GroupIs W G B L) {i : Nat} {s : LS} (hs : L[i]? = some s) {l : List Value} (hl : RecRow 3 encL l L) (hne : B ≠ G) {own acc cnt : Int} (ht : LockTo 47 B (i * 3) l own acc cnt W W') : GroupIs W' G B (L.set i ⟨own, acc, cnt⟩) := by
  obtain ⟨⟨l', k, hb⟩, ho⟩ := ht
  obtain ⟨⟨a, h1, h2⟩, h3⟩ := h
  have hL : L ≠ [] := by rintro rfl; simp at hs
  refine ⟨⟨a, by rw [List.length_set]; exact h1.only ho (fun e => hne e.symm), fun _ => h2 hL⟩, fun _ => ⟨l', k.blk, hl.turn (fun _ => rfl) hb fun j v hv => ?_, hne⟩⟩
  match j, hv with
  | 0, hv => cases hv; exact k.own
  | 1, hv => cases hv; exact k.acc
  | 2, hv => cases hv; exact k.cnt

theorem locks_no (n : Int) (w : World) (h : n < 1 ∨ 1024 < n) :
    Calls Try.prog 7 #[.int .i64 n] w fun e w' => e = .returned (.pointer (some ⟨w.heap.size, 0, none⟩)) ∧ GroupIs w' w.heap.size w.heap.size [] ∧ Below w.heap.size w w' ∧ w.heap.size < w'.heap.size := by
  have F : Hid (Blk 51 (w.alloc (.cells #[.slice none 0 0] 51)) w.heap.size [.slice none 0 0]) := Lib.hid Blk.new
  rcases h with h | h
  · go_enter Try.func7, Try.ntmps7
    go_wp2
    go_ret
    exact ⟨rfl, ⟨⟨none, F.out, fun h => absurd rfl h⟩, fun h => absurd rfl h⟩, (Below.refl _ _).alloc (Nat.le_refl _) _, by simp⟩
  · have h' : ¬ n < 1 := by omega
    go_enter Try.func7, Try.ntmps7
    go_wp2
    go_ret
    exact ⟨rfl, ⟨⟨none, F.out, fun h => absurd rfl h⟩, fun h => absurd rfl h⟩, (Below.refl _ _).alloc (Nat.le_refl _) _, by simp⟩
theorem locks_yes (n : Nat) (w : World) (h1 : 1 ≤ n) (h2 : n ≤ 1024) :
    Calls Try.prog 7 #[.int .i64 n] w fun e w' => e = .returned (.pointer (some ⟨w.heap.size + 1, 0, none⟩)) ∧ GroupIs w' (w.heap.size + 1) w.heap.size (List.replicate n ⟨0, 0, 0⟩) ∧ Below w.heap.size w w' ∧ w.heap.size + 1 < w'.heap.size := by
  have hmk := run_make_recs (P := Try.prog) Try.underlying49 infoLock n (by omega) (by omega) w
  have F := Lib.hid (recRow_made (c := 3) (f := encL) (z := (Value.agg #[.int .i64 0, .int .i64 0, .int .i64 0]).cells) ⟨0, 0, 0⟩ rfl rfl n)
  generalize madeCells (Value.agg #[.int .i64 0, .int .i64 0, .int .i64 0]).cells (n * 3) = M at hmk F
  go_enter Try.func7, Try.ntmps7
  go_wp2
  go_ret
  have hb : Blk 47 (w.alloc (.cells M 47)) w.heap.size M.toList := Blk.new (l := M.toList)
  refine ⟨rfl, ⟨⟨some ⟨w.heap.size, 0, none⟩, ?_, fun _ => rfl⟩, fun _ => ⟨_, hb.alloc _, F.out, by omega⟩⟩, ((Below.refl _ _).alloc (Nat.le_refl _) _).alloc (by simp) _, by simp⟩
  have := Blk.new (t := 51) (W := w.alloc (.cells M 47)) (l := [.slice (some ⟨w.heap.size, 0, none⟩) n n])
  simpa using this

theorem group_Len {W : World} {G B : Nat} {L : List LS} (h : GroupIs W G B L) : Calls Try.prog 9 #[.pointer (some ⟨G, 0, none⟩)] W fun e w' => e = .returned (.int .i64 (L.length : Int)) ∧ W = w' := by
  obtain ⟨a, h1, _⟩ := h.head
  have c0 := h1.at (o := 0) rfl
  clear h h1
  go_enter Try.func9, Try.ntmps9
  go_wp2
  go_ret
  exact ⟨rfl, rfl⟩
theorem group_Len_nil (w : World) : Calls Try.prog 9 #[.pointer none] w fun e w' => e = .returned (.int .i64 0) ∧ w = w' := by
  go_enter Try.func9, Try.ntmps9
  go_wp2
  go_ret
  exact ⟨rfl, rfl⟩
theorem group_At_no {W : World} {G B : Nat} {L : List LS} (h : GroupIs W G B L) (i : Int) (hi : i < 0 ∨ (L.length : Int) ≤ i) : Calls Try.prog 10 #[.pointer (some ⟨G, 0, none⟩), .int .i64 i] W fun e w' => e = .returned (.pointer none) ∧ W = w' := by
  have H := Lib.hid h
  clear h
  rcases hi with hi | hi
  · go_enter Try.func10, Try.ntmps10
    go_wp2
    go_ret
    exact ⟨rfl, rfl⟩
  · have h' : ¬ i < 0 := by omega
    go_enter Try.func10, Try.ntmps10
    go_wp2_with fail
    refine (group_Len H.out).mono ?_
    rintro e w' ⟨rfl, rfl⟩
    go_wp2
    go_ret
    exact ⟨rfl, rfl⟩
theorem group_At_nil (i : Int) (w : World) : Calls Try.prog 10 #[.pointer none, .int .i64 i] w fun e w' => e = .returned (.pointer none) ∧ w = w' := by
  by_cases hi : i < 0
  · go_enter Try.func10, Try.ntmps10
    go_wp2
    go_ret
    exact ⟨rfl, rfl⟩
  · have h0 : 0 ≤ i := by omega
    go_enter Try.func10, Try.ntmps10
    go_wp2_with fail
    refine (group_Len_nil _).mono ?_
    rintro e w' ⟨rfl, rfl⟩
    go_wp2
    go_ret
    exact ⟨rfl, rfl⟩
theorem group_At {W : World} {G B : Nat} {L : List LS} (h : GroupIs W G B L) (i : Nat) (hi : i < L.length) (hbig : L.length ≤ 1024) : Calls Try.prog 10 #[.pointer (some ⟨G, 0, none⟩), .int .i64 i] W fun e w' => e = .returned (.pointer (some ⟨B, i * 3, none⟩)) ∧ W = w' := by
  obtain ⟨a, h1, h2⟩ := h.head
  obtain rfl := h2 (by rintro rfl; simp at hi)
  have c0 := h1.at (o := 0) rfl
  have H := Lib.hid h
  clear h h1
  go_enter Try.func10, Try.ntmps10
  go_wp2_with fail
  refine (group_Len H.out).mono ?_
  rintro e w' ⟨rfl, rfl⟩
  go_wp2
  go_ret
  exact ⟨rfl, rfl⟩

end Go.Proofs.Ythhhbcjnihnlmaa
