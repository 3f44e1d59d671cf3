/- CellNone's walk. -/
import Derived.Test.YtimggoikjipblaaLaw4Plays
namespace Go.Proofs.Ytimggoikjipblaa
open Go.RowKit

/-- Where the loop stands. -/
structure NStand (w1 wr : World) (C : Nat) : Prop where
  z : CellIs 38 wr C (.string ⟨#[]⟩) 0
  below : Below w1.heap.size w1 wr
  hC : w1.heap.size ≤ C

set_option maxRecDepth 100000 in
set_option maxHeartbeats 1000000 in
theorem none_any (a : Option Addr) (cap : Nat) (L : List (Int × Int × Int)) (s : ByteArray) (w : World) (ht : RecsIn 3 encA w a L) :
    Calls Try.prog 4 #[.slice a L.length cap, .string s] w fun e w' => e = .returned (.bool true) ∧ Below w.heap.size w w' := by
  have T := Lib.hid ht
  clear ht
  go_enter Try.func4, Try.ntmps4
  go_wp2_with fail
  refine (awake4 w).mono ?_
  rintro e w1 ⟨rfl, hb⟩
  have T1 := Lib.hid (T.out.below hb)
  have B1 := Lib.hid hb
  clear hb T
  go_wp2_with fail
  go_loopg [7, 8, 9] L.length (fun g i _ _ wr => ∃ (k : Nat), k + g = L.length ∧ i = .int .i64 k ∧ NStand w1 wr w1.heap.size)
  case atStart => exact ⟨0, by omega, rfl, ⟨CellIs.new, (Below.refl _ _).alloc (Nat.le_refl _) _, Nat.le_refl _⟩⟩
  case round =>
    obtain ⟨k, hk, rfl, st⟩ := hrel
    have ST := Lib.hid st
    have HK := Lib.hid hk
    have hkL : k ≤ L.length := by omega
    clear st hk
    by_cases hlt : k < L.length ∧ k < 300
    · obtain ⟨hlt, h300⟩ := hlt
      obtain ⟨b, off, rfl, hb, hx⟩ := (T1.out.below ST.out.below).at k hlt
      generalize L[k] = p at hx
      obtain ⟨kd, old, x⟩ := p
      have x0 : wr.cell? ⟨b, off + k * 3, none⟩ = some (.int .i64 kd) := hx 0 _ rfl
      have x1 : wr.cell? ⟨b, off + k * 3 + 1, none⟩ = some (.int .i64 old) := hx 1 _ rfl
      have x2 : wr.cell? ⟨b, off + k * 3 + 2, none⟩ = some (.int .i64 x) := hx 2 _ rfl
      clear hx
      go_wp2_with fail
      refine (do_nil kd old x wr).mono ?_
      rintro e w3 ⟨rfl, hb3⟩
      have S3 := Lib.hid (show NStand w1 w3 w1.heap.size from ⟨ST.out.z.only (Only.of_below hb3 (fun _ => False)) (fun h => h), below_step ST.out.below hb3, ST.out.hC⟩)
      clear hb3 ST x0 x1 x2
      go_wp2_with fail
      refine (peek_int_nil w3).mono ?_
      rintro e w4 ⟨rfl, rfl⟩
      go_wp2_with fail
      refine (count_int_nil w3).mono ?_
      rintro e w4 ⟨rfl, rfl⟩
      go_wp2_with fail
      have hgk := HK.out
      go_roundg (gk - 1)
      case rel => exact ⟨k + 1, by omega, by go_num, S3.out⟩
      case measure => omega
    · have hf : ((decide (k < L.length) && decide (k < 300)) = false) := by simpa using hlt
      have C := Lib.hid (show w1.heap.size < wr.heap.size from ST.out.z.lt)
      by_cases hl : k < L.length
      · have h3 : ¬ k < 300 := fun h => hlt ⟨hl, h⟩
        clear hf hlt
        go_wp2_with fail
        refine (peek_string w1.heap.size ⟨#[]⟩ 0 wr ST.out.z).mono ?_
        rintro e w4 ⟨rfl, rfl⟩
        go_wp2_with fail
        refine (count_string w1.heap.size ⟨#[]⟩ 0 wr ST.out.z).mono ?_
        rintro e w4 ⟨rfl, rfl⟩
        go_wp2_with fail
        refine (load_string w1.heap.size ⟨#[]⟩ 0 wr ST.out.z (by omega) (by omega)).mono ?_
        rintro e w4 ⟨rfl, c4, o4⟩
        have B4 := Lib.hid (Only.below_step (by have := C.out; omega) ST.out.below o4 (fun i hi e => by omega))
        have hz4 := B4.out.size
        have C4 := Lib.hid c4
        clear c4 o4 ST
        go_wp2_with fail
        refine (cas_string_yes w1.heap.size ⟨#[]⟩ s (0 + 1) w4 C4.out (by omega) (by omega)).mono ?_
        rintro e w5 ⟨rfl, c5, o5⟩
        have B5 := Lib.hid (Only.below_step hz4 B4.out o5 (fun i hi e => by omega))
        have hz5 := B5.out.size
        have C5 := Lib.hid c5
        clear c5 o5 C4
        go_wp2_with fail
        refine (swap_string w1.heap.size s ⟨#[120]⟩ (0 + 1 + 1) w5 C5.out (by omega) (by omega)).mono ?_
        rintro e w6 ⟨rfl, c6, o6⟩
        have B6 := Lib.hid (Only.below_step hz5 B5.out o6 (fun i hi e => by omega))
        have C6 := Lib.hid c6
        clear c6 o6 C5
        go_wp2_with fail
        refine (peek_string w1.heap.size ⟨#[120]⟩ (0 + 1 + 1 + 1) w6 C6.out).mono ?_
        rintro e w7 ⟨rfl, rfl⟩
        go_wp2_with fail
        refine (count_string w1.heap.size ⟨#[120]⟩ (0 + 1 + 1 + 1) w6 C6.out).mono ?_
        rintro e w7 ⟨rfl, rfl⟩
        go_wp2
        go_ret
        exact ⟨rfl, B1.out.trans (B6.out.mono B1.out.size)⟩
      · clear hf hlt
        go_wp2_with fail
        refine (peek_string w1.heap.size ⟨#[]⟩ 0 wr ST.out.z).mono ?_
        rintro e w4 ⟨rfl, rfl⟩
        go_wp2_with fail
        refine (count_string w1.heap.size ⟨#[]⟩ 0 wr ST.out.z).mono ?_
        rintro e w4 ⟨rfl, rfl⟩
        go_wp2_with fail
        refine (load_string w1.heap.size ⟨#[]⟩ 0 wr ST.out.z (by omega) (by omega)).mono ?_
        rintro e w4 ⟨rfl, c4, o4⟩
        have B4 := Lib.hid (Only.below_step (by have := C.out; omega) ST.out.below o4 (fun i hi e => by omega))
        have hz4 := B4.out.size
        have C4 := Lib.hid c4
        clear c4 o4 ST
        go_wp2_with fail
        refine (cas_string_yes w1.heap.size ⟨#[]⟩ s (0 + 1) w4 C4.out (by omega) (by omega)).mono ?_
        rintro e w5 ⟨rfl, c5, o5⟩
        have B5 := Lib.hid (Only.below_step hz4 B4.out o5 (fun i hi e => by omega))
        have hz5 := B5.out.size
        have C5 := Lib.hid c5
        clear c5 o5 C4
        go_wp2_with fail
        refine (swap_string w1.heap.size s ⟨#[120]⟩ (0 + 1 + 1) w5 C5.out (by omega) (by omega)).mono ?_
        rintro e w6 ⟨rfl, c6, o6⟩
        have B6 := Lib.hid (Only.below_step hz5 B5.out o6 (fun i hi e => by omega))
        have C6 := Lib.hid c6
        clear c6 o6 C5
        go_wp2_with fail
        refine (peek_string w1.heap.size ⟨#[120]⟩ (0 + 1 + 1 + 1) w6 C6.out).mono ?_
        rintro e w7 ⟨rfl, rfl⟩
        go_wp2_with fail
        refine (count_string w1.heap.size ⟨#[120]⟩ (0 + 1 + 1 + 1) w6 C6.out).mono ?_
        rintro e w7 ⟨rfl, rfl⟩
        go_wp2
        go_ret
        exact ⟨rfl, B1.out.trans (B6.out.mono B1.out.size)⟩

end Go.Proofs.Ytimggoikjipblaa
