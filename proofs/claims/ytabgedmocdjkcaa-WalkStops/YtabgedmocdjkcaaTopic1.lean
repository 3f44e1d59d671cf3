/- What the program's layer 1 (package topic) comes to: contracts over the program's text. Texts of at most 1048576 bytes. -/
import Derived.RangeFuncNested
import Derived.RangeFuncBound
import Derived.RangeFuncCalls
import Derived.RangeFuncLeaves
import Derived.Shelf.Abstract
import Derived.Shelf.RegionOpen
import Derived.WalkKit
import Derived.OwnWalkIn
import Derived.TacticsInMore
import Derived.LoopNIn
import Derived.LoopIn
import Derived.Test.YtabgedmocdjkcaaProg
import Derived.Test.YtabgedmocdjkcaaBytes
import Derived.Test.YtabgedmocdjkcaaStrs
import Derived.Test.YtabgedmocdjkcaaRef1
namespace Go.Proofs.Ytabgedmocdjkcaa
open Go.RowKit Go.Shelf

attribute [local go_sem] Oper.semAt_some

/-- topic.Depth. -/
theorem topic_Depth (s : ByteArray) (w : World) (hs : s.size ≤ 1048576) :
    Calls Try.prog 43 #[.string s] w fun e w' => e = .returned (.int .i64 ((lv s.data.toList).length : Int)) ∧ w = w' := by
  have H := Lib.hid (show (lv s.data.toList).length = cntZ s.data.toList 47 + 1 from lv_length s.data.toList)
  have hc : cntZ s.data.toList 47 ≤ 1048576 := by
    have := cntZ_le s.data.toList 47; rw [← Lib.size_eq] at this; omega
  go_enter Try.func43, Try.ntmps43
  go_wp2_with (go_at_call 64; refine (strings_Count _ _ _).mono ?_; rintro e w' ⟨rfl, rfl⟩)
  go_ret
  refine ⟨?_, rfl⟩
  rw [H.out]; go_num

/-- topic.hasMark. -/
theorem topic_hasMark (s : ByteArray) (w : World) :
    Calls Try.prog 83 #[.string s] w fun e w' => e = .returned (.bool (markZ s.data.toList)) ∧ w = w' := by
  cases h43 : hasZ s.data.toList 43
  · have H := Lib.hid (show markZ s.data.toList = hasZ s.data.toList 35 by unfold markZ; rw [h43]; rfl)
    go_enter Try.func83, Try.ntmps83
    go_wp2_with (go_at_call 93; refine (strings_Contains _ _ _).mono ?_; rintro e w' ⟨rfl, rfl⟩)
    go_ret
    exact ⟨by rw [H.out]; rfl, rfl⟩
  · have H := Lib.hid (show markZ s.data.toList = true by unfold markZ; rw [h43]; rfl)
    go_enter Try.func83, Try.ntmps83
    go_wp2_with (go_at_call 93; refine (strings_Contains _ _ _).mono ?_; rintro e w' ⟨rfl, rfl⟩)
    go_ret
    exact ⟨by rw [H.out]; rfl, rfl⟩

/-- topic.rightBytes. -/
theorem topic_rightBytes (s : ByteArray) (w : World) :
    Calls Try.prog 66 #[.string s] w fun e w' => e = .returned (.bool (bytesOk s.data.toList)) ∧ w = w' := by
  have hl := Lib.size_eq s
  by_cases c1 : 1 ≤ s.size
  · by_cases c2 : s.size ≤ 32
    · have H := Lib.hid (show bytesOk s.data.toList = decide (Lib.indexByte s.data.toList 0 < 0) by unfold bytesOk; rw [← hl, idx_neg]; simp [c1, c2])
      clear hl
      go_enter Try.func66, Try.ntmps66
      go_wp2_with (go_at_call 82; refine (strings_IndexByte _ _ _).mono ?_; rintro e w' ⟨rfl, rfl⟩)
      go_ret
      exact ⟨by rw [H.out]; rfl, rfl⟩
    · have H := Lib.hid (show bytesOk s.data.toList = false by unfold bytesOk; rw [← hl]; simp [c2])
      clear hl
      go_enter Try.func66, Try.ntmps66
      go_wp2
      go_ret
      exact ⟨by rw [H.out]; rfl, rfl⟩
  · have H := Lib.hid (show bytesOk s.data.toList = false by unfold bytesOk; rw [← hl]; simp [c1])
    clear hl
    go_enter Try.func66, Try.ntmps66
    go_wp2
    go_ret
    exact ⟨by rw [H.out]; rfl, rfl⟩

/-- topic.rightLevel. -/
theorem topic_rightLevel (s : ByteArray) (last : Bool) (w : World) :
    Calls Try.prog 67 #[.string s, .bool last] w fun e w' => e = .returned (.bool (levelOk s.data.toList last)) ∧ w = w' := by
  have hd := Lib.toList_data s
  by_cases hA : s.data.toList = [43]
  · have H := Lib.hid (show levelOk s.data.toList last = true by unfold levelOk; rw [if_pos hA])
    have e1 : (s.toList == [43]) = true := by rw [hd, hA]; rfl
    clear hA hd
    go_enter Try.func67, Try.ntmps67
    go_wp2
    go_ret
    exact ⟨by rw [H.out]; rfl, rfl⟩
  · have e1 : (s.toList == [43]) = false := by rw [hd]; simpa using hA
    by_cases hS : s.data.toList = [35]
    · have H := Lib.hid (show levelOk s.data.toList last = last by unfold levelOk; rw [if_neg hA, if_pos hS])
      have e2 : (s.toList == [35]) = true := by rw [hd, hS]; rfl
      clear hA hS hd
      go_enter Try.func67, Try.ntmps67
      go_wp2
      go_ret
      exact ⟨by rw [H.out]; rfl, rfl⟩
    · have H := Lib.hid (show levelOk s.data.toList last = !markZ s.data.toList by unfold levelOk; rw [if_neg hA, if_neg hS])
      have e2 : (s.toList == [35]) = false := by rw [hd]; simpa using hS
      clear hA hS hd
      go_enter Try.func67, Try.ntmps67
      go_wp2_with (go_at_call 83; refine (topic_hasMark _ _).mono ?_; rintro e w' ⟨rfl, rfl⟩)
      go_ret
      exact ⟨by rw [H.out]; rfl, rfl⟩

/-- topic.Wild. -/
theorem topic_Wild (s : ByteArray) (w : World) (hs : s.size ≤ 1048576) :
    Calls Try.prog 46 #[.string s] w fun e w' => e = .returned (.bool (wildZ s.data.toList)) ∧ Below w.heap.size w w' := by
  have hd := Lib.toList_data s
  rcases idx_cases 47 s.data.toList with ⟨hno, _⟩ | ⟨a, b, hab, hna, _⟩
  · have H := Lib.hid (show wildZ s.data.toList = ((s.toList == [43]) || (s.toList == [35])) by unfold wildZ; rw [lv_plain _ hno, hd]; rfl)
    have HN := Lib.hid hno
    clear hno hd
    go_enter Try.func46, Try.ntmps46
    go_wp2_with (go_at_call 49; refine (strings_Cut_none _ _ HN.out).mono ?_; rintro e w' ⟨rfl, rfl⟩)
    · go_ret
      rename_i h43
      exact ⟨by rw [H.out, h43]; rfl, Below.refl _ _⟩
    · go_ret
      exact ⟨by rw [H.out]; rfl, Below.refl _ _⟩
  · have H := Lib.hid (show wildZ s.data.toList = ((a == [43]) || (a == [35])) by unfold wildZ; rw [hab, lv_cut _ _ hna]; rfl)
    have HN := Lib.hid hab
    have HA := Lib.hid hna
    clear hab hna hd
    go_enter Try.func46, Try.ntmps46
    go_wp2_with (go_at_call 49; refine (strings_Cut_some _ a b _ hs HN.out HA.out).mono ?_; rintro e w' ⟨rfl, rfl⟩)
    · go_ret
      rename_i h43
      exact ⟨by rw [H.out, h43]; rfl, (Below.refl _ _).drew⟩
    · go_ret
      exact ⟨by rw [H.out]; rfl, (Below.refl _ _).drew⟩

/-- A level and its place, as they come. -/
abbrev encL (x : Nat × List UInt8) : Array Value := #[.int .i64 (x.1 : Int), .string ⟨x.2.toArray⟩]
/-- Levels with their places, from k on. -/
def enum (k : Nat) : List (List UInt8) → List (Nat × List UInt8)
  | [] => []
  | x :: r => (k, x) :: enum (k + 1) r

theorem enum_length : ∀ (k : Nat) (L : List (List UInt8)), (enum k L).length = L.length
  | _, [] => rfl
  | k, _ :: r => by rw [enum, List.length_cons, enum_length (k + 1) r]; rfl
theorem enum_snd : ∀ (k : Nat) (L : List (List UInt8)), ((enum k L).map fun x => strV x.2) = L.map strV
  | _, [] => rfl
  | k, x :: r => by rw [enum, List.map_cons, List.map_cons, enum_snd (k + 1) r]
theorem keeps_walks {W W' : World} (h : KeepsOthers W W') : KeepsWalks W W' :=
  ⟨h.size, fun k o hk ho => h.same k o hk (by cases o <;> first | rfl | (simp [Obj.isWalk] at ho))⟩
theorem only_drew' (w : World) : w.grownBy w.drew none := ⟨rfl, rfl, rfl, Nat.le_refl _, fun _ _ _ => rfl⟩
/-- For the loop's measure: how much is left. -/
def eachLeft (lf mo : Value) : Nat := match lf, mo with
  | .string x, .bool true => x.size + 1
  | _, _ => 0
theorem eachLeft_yes (x : ByteArray) : eachLeft (.string x) (.bool true) = x.size + 1 := rfl
theorem eachLeft_no (x : ByteArray) : eachLeft (.string x) (.bool false) = 0 := rfl

/-- topic.Each: the text is boxed; the function value captures the box. -/
theorem topic_Each (s : ByteArray) (w : World) :
    Calls Try.prog 44 #[.string s] w fun e w' => e = .returned (.func (.func 65) #[] #[.pointer (some ⟨w.heap.size, 0, none⟩)]) ∧ w' = w.alloc (.cells #[.string s] 9) := by
  go_enter Try.func44, Try.ntmps44
  go_wp2
  go_ret
  exact ⟨rfl, rfl⟩

set_option maxRecDepth 100000 in
set_option maxHeartbeats 1000000 in
theorem topic_Each1 (n : Nat) (hn : 1 ≤ n) (l Bn : Nat) (s : ByteArray) (hs : s.size ≤ 1048576) (J Jx : List (Nat × List UInt8) → World → Prop) (W : World)
    (hJ : AbidesFrom W.heap.size J)
    (hY : ∀ pre x W1, J pre W1 → pre.length < (lv s.data.toList).length → YieldAt Fence.wide (n - 1) Try.prog l (encL x) W1 fun e W' =>
      (e = .returned (.bool true) ∧ J (pre ++ [x]) W' ∧ KeepsWalks W1 W') ∨ (e = .returned (.bool false) ∧ Jx (pre ++ [x]) W'))
    (hBn : W.cell? ⟨Bn, 0, none⟩ = some (.string s)) (h0 : J [] W) :
    CallsIn Fence.wide n Try.prog 65 #[.func (.yield l) #[] #[], .pointer (some ⟨Bn, 0, none⟩)] W fun e W' => (∃ v, e = .returned v) ∧
      ((∃ ys, ys = enum 0 (lv s.data.toList) ∧ J ys W') ∨ (∃ pre, pre <+: enum 0 (lv s.data.toList) ∧ Jx pre W')) := by
  refine callsIn_of_wp Try.func65 rfl trivial ?_ rfl
  simp only [Try.ntmps65, List.size_toArray, List.length_cons, List.length_nil, Nat.reduceAdd, Nat.reduceSub, Array.replicate_succ, Array.replicate_zero, List.push_toArray, List.append_toArray, List.nil_append, List.cons_append]
  gi_wp2
  gi_loopw [3, 4, 5] (fun lf mo pl wr => ∃ (pre : List (Nat × List UInt8)) (rest : List (List UInt8)) (left : ByteArray), lf = .string left ∧ pl = .int .i64 (pre.length : Int) ∧ left.size ≤ s.size ∧ Hid (enum 0 (lv s.data.toList) = pre ++ enum pre.length rest) ∧ J pre wr ∧
      ((mo = .bool true ∧ Hid (rest = lv left.data.toList)) ∨ (mo = .bool false ∧ Hid (rest = []))))
    (fun lf mo _ _ => eachLeft lf mo)
  case atStart => exact ⟨[], lv s.data.toList, s, rfl, rfl, Nat.le_refl _, rfl, h0, .inl ⟨rfl, rfl⟩⟩
  case round =>
    obtain ⟨pre, rest, left, rfl, rfl, hle, HE, hJs, ⟨rfl, HR⟩ | ⟨rfl, HR⟩⟩ := hrel
    · have hls : left.size ≤ 1048576 := by omega
      have hpl : pre.length < (lv s.data.toList).length := by
        have e := congrArg List.length HE.out
        rw [enum_length, List.length_append, enum_length, HR.out] at e
        have := List.length_pos_iff.2 (lv_ne left.data.toList)
        omega
      have hpb : (lv s.data.toList).length ≤ 1048577 := by
        have h1 := lv_length s.data.toList
        have h2 := List.count_le_length (a := (47 : UInt8)) (l := s.data.toList)
        rw [← Lib.size_eq] at h2; omega
      rcases idx_cases 47 left.data.toList with ⟨hno, _⟩ | ⟨a, b, hab, hna, _⟩
      · have HN := Lib.hid hno
        have HL := Lib.hid (lv_plain _ hno)
        clear hno
        obtain ⟨fn, tmps, assign, body, hy, hR⟩ := hY pre (pre.length, left.data.toList) wr hJs hpl
        dsimp only [encL] at hy
        rw [Lib.mk_data] at hy
        gi_wp2_with fail
        refine ⟨trivial, (callsIn_wide.2 (strings_Cut_none _ _ HN.out)).mono ?_⟩
        rintro e w' ⟨rfl, rfl⟩
        gi_wp2
        refine hR.mono ?_
        rintro e W3 (⟨rfl, hJ3, _⟩ | ⟨rfl, hJx3⟩)
        · gi_wp2
          go_roundw
          case rel =>
            refine ⟨pre ++ [(pre.length, left.data.toList)], [], ⟨#[]⟩, rfl, by simp, Nat.zero_le _, ?_, hJ3, .inr ⟨rfl, rfl⟩⟩
            show enum 0 (lv s.data.toList) = _
            rw [HE.out, HR.out, HL.out]; simp [enum]
          case measure => rw [eachLeft_no, eachLeft_yes]; omega
        · gi_wp2
          refine bodyPost_ret (results_none rfl _ _ _) rfl ?_
          refine ⟨⟨_, rfl⟩, .inr ⟨pre ++ [(pre.length, left.data.toList)], ⟨[], ?_⟩, hJx3⟩⟩
          rw [HE.out, HR.out, HL.out]; simp [enum]
      · have HN := Lib.hid hab
        have HA := Lib.hid hna
        have HL := Lib.hid (show lv left.data.toList = a :: lv b by rw [hab]; exact lv_cut a b hna)
        have hbl : b.length + 1 ≤ left.size := by rw [Lib.size_eq, hab]; simp
        clear hab hna
        obtain ⟨fn, tmps, assign, body, hy, hR⟩ := hY pre (pre.length, a) wr.drew (hJ _ _ _ none hJs (only_drew' wr) (fun r e => by cases e)) hpl
        dsimp only [encL] at hy
        gi_wp2_with fail
        refine ⟨trivial, (callsIn_wide.2 (strings_Cut_some _ a b _ hls HN.out HA.out)).mono ?_⟩
        rintro e w' ⟨rfl, rfl⟩
        gi_wp2
        refine hR.mono ?_
        rintro e W3 (⟨rfl, hJ3, _⟩ | ⟨rfl, hJx3⟩)
        · gi_wp2
          go_roundw
          case rel =>
            refine ⟨pre ++ [(pre.length, a)], lv b, ⟨b.toArray⟩, rfl, by simp, ?_, ?_, hJ3, .inl ⟨rfl, rfl⟩⟩
            · show b.toArray.size ≤ _
              simp; omega
            · show enum 0 (lv s.data.toList) = _
              rw [HE.out, HR.out, HL.out]; simp [enum]
          case measure =>
            rw [eachLeft_yes, eachLeft_yes]
            show b.toArray.size + 1 < _
            simp; omega
        · gi_wp2
          refine bodyPost_ret (results_none rfl _ _ _) rfl ?_
          refine ⟨⟨_, rfl⟩, .inr ⟨pre ++ [(pre.length, a)], ⟨enum (pre.length + 1) (lv b), ?_⟩, hJx3⟩⟩
          rw [HE.out, HR.out, HL.out]; simp [enum]
    · gi_wp2
      go_end0
      refine ⟨⟨_, rfl⟩, .inl ⟨pre, ?_, hJs⟩⟩
      rw [HE.out, HR.out]; simp [enum]

/-- What topic.Each answers tells the levels, each with its place; or a beginning of them, where it was told to stop. -/
theorem topic_Each_stops (n : Nat) (hn : 1 ≤ n) (Bn : Nat) (s : ByteArray) (hs : s.size ≤ 1048576) (w : World) (hBn : Bn < w.heap.size) (hc : w.cell? ⟨Bn, 0, none⟩ = some (.string s)) :
    SeqStopsK Fence.wide n Try.prog 65 #[.pointer (some ⟨Bn, 0, none⟩)] encL KeepsWalks (fun ys => ys = enum 0 (lv s.data.toList)) (fun pre => pre <+: enum 0 (lv s.data.toList)) (lv s.data.toList).length w := fun l J Jx W hW hJ _ hY h0 =>
  topic_Each1 n hn l Bn s hs J Jx W hJ hY ((hW.cell (p := ⟨Bn, 0, none⟩) hBn).trans hc) h0

theorem lv_bound (s : ByteArray) (hs : s.size ≤ 1048576) : (lv s.data.toList).length ≤ 1048577 := by
  have h1 := lv_length s.data.toList
  have h2 := List.count_le_length (a := (47 : UInt8)) (l := s.data.toList)
  rw [← Lib.size_eq] at h2; omega

set_option maxRecDepth 100000 in
set_option maxHeartbeats 2000000 in
/-- topic.Levels. -/
theorem topic_Levels (s : ByteArray) (w : World) (hs : s.size ≤ 1048576) :
    Calls Try.prog 27 #[.string s] w fun e w' => ∃ v, e = .returned v ∧ w'.ownsRow w.heap.size 9 1 v (lv s.data.toList).length ((lv s.data.toList).map strV) ∧ Below w.heap.size w w' := by
  obtain ⟨i0, hi, hz0, hz1, hz2⟩ := info_parts infoStr
  have hb := lv_bound s hs
  have hmk : ∀ W : World, (Instr.makeSlice 22 (.int .i64 0) (.int .i64 ((lv s.data.toList).length : Int))).run Try.prog W = .ok (.slice (some ⟨W.heap.size, 0, none⟩) 0 (lv s.data.toList).length) (W.alloc (.cells (madeCells (Value.string ⟨#[]⟩).cells ((lv s.data.toList).length * 1)) 9)) := fun W => by
    have h := run_make (P := Try.prog) W 22 9 i0 (.string ⟨#[]⟩) Try.underlying22 hi hz0 .i64 .i64 0 ((lv s.data.toList).length : Int) (by omega) (by omega) (by rw [hz2]; omega) (by omega)
    simpa [hz1] using h
  obtain ⟨mk, HM⟩ : ∃ mk, Hid (madeCells (Value.string ⟨#[]⟩).cells ((lv s.data.toList).length * 1) = mk) := ⟨_, rfl⟩
  have hms : mk.size = (lv s.data.toList).length * 1 := by rw [← HM.out]; simp [madeCells]
  rw [HM.out] at hmk
  have HS := Lib.hid hms
  clear hms
  refine (callsIn_wide (n := 6)).1 ?_
  refine callsIn_of_wp_marks Try.func27 rfl trivial ?_ rfl
  simp only [Try.ntmps27, List.size_toArray, List.length_cons, List.length_nil, Nat.reduceAdd, Nat.reduceSub, Array.replicate_succ, Array.replicate_zero, List.push_toArray, List.append_toArray, List.nil_append, List.cons_append]
  gi_wp2_with fail
  refine ⟨trivial, (callsIn_wide.2 (topic_Depth _ _ hs)).mono ?_⟩
  rintro e w' ⟨rfl, rfl⟩
  gi_wp2_with fail
  refine ⟨trivial, (callsIn_wide.2 (topic_Each _ _)).mono ?_⟩
  rintro e w' ⟨rfl, rfl⟩
  gi_wp2_with fail
  have hrow0 := (World.ownsRow_made (base := w.heap.size) (e := 9) (size := 1) w mk (lv s.data.toList).length (Nat.le_refl _) (by simp only [maxLen]; omega) HS.out)
  have bO := Boxed.new (w.alloc (.cells mk 9)) 22 (.slice (some ⟨w.heap.size, 0, none⟩) 0 (lv s.data.toList).length)
  have bN := Boxed.new ((w.alloc (.cells mk 9)).alloc (.cells #[.slice (some ⟨w.heap.size, 0, none⟩) 0 (lv s.data.toList).length] 22)) 9 (.string s)
  rw [World.size_alloc] at bO
  rw [World.size_alloc, World.size_alloc] at bN
  have hB0 : Below w.heap.size w (((w.alloc (.cells mk 9)).alloc (.cells #[.slice (some ⟨w.heap.size, 0, none⟩) 0 (lv s.data.toList).length] 22)).alloc (.cells #[.string s] 9)) := (((Below.refl _ w).alloc (Nat.le_refl _) _).alloc (by simp) _).alloc (by simp; omega) _
  refine wpIn_rangeFunc_ownG rfl (by omega) (gf := 65) (lb := #[.pointer (some ⟨w.heap.size + 1 + 1, 0, none⟩)]) rfl trivial (enters_of Try.func65 (by kernel_rfl) rfl)
    (topic_Each_stops (6 - 1) (by omega) (w.heap.size + 1 + 1) s hs _ (by simp) bN.cell) walksK_t walksK_b (Below.refl _ _) (fun _ => rfl)
    (fun (pre : List (Nat × List UInt8)) W => (∃ v, Boxed W (w.heap.size + 1) 22 v ∧ W.ownsRow w.heap.size 9 1 v pre.length (pre.map fun x => strV x.2) ∧ True) ∧ Below w.heap.size w W)
    (fun _ _ _ => False)
    (OwnFrom.and (Own.from (holdsRow_own w.heap.size (w.heap.size + 1) 22 9 1 (fun pre : List (Nat × List UInt8) => pre.length) (fun pre => pre.map fun x => strV x.2) (fun _ _ => True)) _) (ownFrom_below (Nat.le_refl _) (by simp; omega)))
    (fun _ _ _ _ _ hs _ _ => hs)
    ⟨⟨_, bO.alloc _, (hrow0.alloc _).alloc _, trivial⟩, hB0⟩
    (fun x => { tmps := #[.string s, undef, .slice none 0 0, .pointer (some ⟨w.heap.size + 1, 0, none⟩), undef, .string ⟨x.2.toArray⟩, .string s, .int .i64 ((lv s.data.toList).length : Int), .slice (some ⟨w.heap.size, 0, none⟩) 0 (lv s.data.toList).length, .string s, .func (.func 65) #[] #[.pointer (some ⟨w.heap.size + 1 + 1, 0, none⟩)], .int .i64 (x.1 : Int), .string ⟨x.2.toArray⟩, undef, undef, undef, undef, undef], defers := [] }) ?assign ?body ?done ?stop
  case assign =>
    intro l x W K hK
    gi_wp2
    exact hK
  case body =>
    rintro l pre x W ⟨⟨v, hv, hrow, _⟩, hB⟩ hlt
    have hc := hv.cell
    gi_wp2_with (gi_at_builtin; refine wpListIn_append_own _ rfl _ _ 22 rfl w.heap.size 9 i0 (.string ⟨#[]⟩) 1 16 Try.underlying22 hi hz0 hz1 hz2 rfl (by decide) _ _ _ rfl (hrow.alloc _) ⟨W.heap.size, 0, none⟩ 1 1 [.string ⟨x.2.toArray⟩] rfl rfl (cell_one_new _ _ _) (by simp [Value.oneCell']) (by simp only [maxLen]; omega) (by omega) (by have := hB.size; simp; omega) ?_; intro v' w1 hown' hgrow _; obtain ⟨g', cap', rfl⟩ := ownsRow_succ hown'; obtain ⟨hv1, hv2, hr2, hk2, hb2⟩ := hv.appended (by decide) hrow hB.size (by omega) hown' hgrow; have hc1 := hv1.cell; have hf1 := hv1.frozen)
    refine ⟨hk2.from _, keeps_walks hk2, ⟨_, hv2, ?_, trivial⟩, hB.trans hb2⟩
    rw [List.length_append, List.map_append]; exact hr2
  case done =>
    rintro D ys W hD rfl ⟨⟨v, hv, hrow, _⟩, hB⟩ hK
    have hc := hv.cell
    gi_wp2
    refine ⟨by simp, .inl ⟨_, _, rfl, run_takeDeferred hK, ?_⟩⟩
    refine ⟨_, results_tmp rfl _ _ _, v, rfl, ?_, hB.trans (belowK_b (w := w) (Nat.le_refl _) W D _ _ (by simp at hD; omega) hK rfl rfl)⟩
    have := ownsRow_putObj hrow (.deferred none) hK rfl
    rw [enum_length, enum_snd] at this
    exact this
  case stop =>
    rintro D c pre W _ _ h _
    exact h.elim

theorem topic_Levels_cells (s : ByteArray) (w : World) (hs : s.size ≤ 1048576) :
    Calls Try.prog 27 #[.string s] w fun e w' => ∃ g cap, e = .returned (.slice (some ⟨g, 0, none⟩) (lv s.data.toList).length cap) ∧ w.heap.size ≤ g ∧ g < w'.heap.size ∧
      (∀ (i : Nat) x, (lv s.data.toList)[i]? = some x → w'.cell? ⟨g, i, none⟩ = some (.string ⟨x.toArray⟩)) ∧ Below w.heap.size w w' := by
  refine (topic_Levels s w hs).mono ?_
  rintro e w1 ⟨v, rfl, hrow, hB⟩
  obtain ⟨g, cap, rfl, hg1, hg2, hc⟩ := RowOf.of_own hrow (lv_ne _)
  exact ⟨g, cap, rfl, hg1, hg2, hc, hB⟩

/-- Is a level right at its place? -/
def okAt (last : Nat) (x : Nat × List UInt8) : Bool := levelOk x.2 (decide (x.1 + 1 = last))
theorem enum_ok : ∀ (k : Nat) (L : List (List UInt8)), (enum k L).all (okAt (k + L.length)) = levelsOk L
  | _, [] => rfl
  | k, x :: r => by
    have ih := enum_ok (k + 1) r
    rw [enum, List.all_cons, levelsOk, ← ih]
    have e1 : k + (x :: r).length = k + 1 + r.length := by simp; omega
    have e2 : okAt (k + 1 + r.length) (k, x) = levelOk x r.isEmpty := by
      unfold okAt
      cases r with
      | nil => simp
      | cons y r => simp
    rw [e1, e2]

set_option maxRecDepth 100000 in
set_option maxHeartbeats 2000000 in
/-- topic.Filter, where its bytes are right. -/
theorem topic_Filter_ok (s : ByteArray) (w : World) (hok : bytesOk s.data.toList = true) :
    Calls Try.prog 45 #[.string s] w fun e w' => e = .returned (.bool (levelsOk (lv s.data.toList))) ∧ Below w.heap.size w w' := by
  have hs : s.size ≤ 1048576 := by
    unfold bytesOk at hok; rw [Bool.and_eq_true, Bool.and_eq_true] at hok
    have := of_decide_eq_true hok.1.2
    rw [← Lib.size_eq] at this; omega
  have hb := lv_bound s hs
  have hlp := List.length_pos_iff.2 (lv_ne s.data.toList)
  have HOK := Lib.hid hok
  clear hok
  refine (callsIn_wide (n := 6)).1 ?_
  refine callsIn_of_wp_marks Try.func45 rfl trivial ?_ rfl
  simp only [Try.ntmps45, List.size_toArray, List.length_cons, List.length_nil, Nat.reduceAdd, Nat.reduceSub, Array.replicate_succ, Array.replicate_zero, List.push_toArray, List.append_toArray, List.nil_append, List.cons_append]
  gi_wp2_with fail
  refine ⟨trivial, (callsIn_wide.2 (topic_rightBytes _ _)).mono ?_⟩
  rintro e w' ⟨rfl, rfl⟩
  rw [HOK.out]
  gi_wp2_with fail
  refine ⟨trivial, (callsIn_wide.2 (topic_Depth _ _ hs)).mono ?_⟩
  rintro e w' ⟨rfl, rfl⟩
  gi_wp2_with fail
  refine ⟨trivial, (callsIn_wide.2 (topic_Each _ _)).mono ?_⟩
  rintro e w' ⟨rfl, rfl⟩
  gi_wp2_with fail
  obtain ⟨N, HN⟩ : ∃ N, Hid ((lv s.data.toList).length = N) := ⟨_, rfl⟩
  rw [HN.out] at hb hlp ⊢
  have bR := Boxed.new w 4 (.bool false)
  have bL := Boxed.new (w.alloc (.cells #[.bool false] 4)) 3 (.int .i64 ((N : Int) - 1))
  have bN := Boxed.new ((w.alloc (.cells #[.bool false] 4)).alloc (.cells #[.int .i64 ((N : Int) - 1)] 3)) 9 (.string s)
  rw [World.size_alloc] at bL
  rw [World.size_alloc, World.size_alloc] at bN
  have hB0 : Below w.heap.size w (((w.alloc (.cells #[.bool false] 4)).alloc (.cells #[.int .i64 ((N : Int) - 1)] 3)).alloc (.cells #[.string s] 9)) := (((Below.refl _ w).alloc (Nat.le_refl _) _).alloc (by simp) _).alloc (by simp; omega) _
  refine wpIn_rangeFunc_ownG rfl (by omega) (gf := 65) (lb := #[.pointer (some ⟨w.heap.size + 1 + 1, 0, none⟩)]) rfl trivial (enters_of Try.func65 (by kernel_rfl) rfl)
    (topic_Each_stops (6 - 1) (by omega) (w.heap.size + 1 + 1) s hs _ (by simp) bN.cell) walksK_t walksK_b (Below.refl _ _) (fun _ => rfl)
    (fun (pre : List (Nat × List UInt8)) W => ((Boxed W w.heap.size 4 (.bool false) ∧ Boxed W (w.heap.size + 1) 3 (.int .i64 ((N : Int) - 1))) ∧ Hid (pre.all (okAt N) = true)) ∧ Below w.heap.size w W)
    (fun c (pre : List (Nat × List UInt8)) W => ((Boxed W w.heap.size 4 (.bool false) ∧ c = .ret) ∧ Hid (pre.all (okAt N) = false)) ∧ Below w.heap.size w W)
    (OwnFrom.and (OwnFrom.and (OwnFrom.and (Own.from (boxed_own _ _ _) _) (Own.from (boxed_own _ _ _) _)) (fun _ _ _ _ hs _ _ => hs)) (ownFrom_below (Nat.le_refl _) (by simp; omega)))
    (fun _ => OwnFrom.and (OwnFrom.and (OwnFrom.and (Own.from (boxed_own _ _ _) _) (fun _ _ _ _ hs _ _ => hs)) (fun _ _ _ _ hs _ _ => hs)) (ownFrom_below (Nat.le_refl _) (by simp; omega)))
    ⟨⟨⟨(bR.alloc _).alloc _, bL.alloc _⟩, rfl⟩, hB0⟩
    (fun x => { tmps := #[.string s, undef, .pointer (some ⟨w.heap.size, 0, none⟩), .pointer (some ⟨w.heap.size + 1, 0, none⟩), .int .i64 (x.1 : Int), .string ⟨x.2.toArray⟩, .string s, .bool true, .bool false, .string s, .int .i64 (N : Int), .int .i64 ((N : Int) - 1), .string s, .func (.func 65) #[] #[.pointer (some ⟨w.heap.size + 1 + 1, 0, none⟩)], .int .i64 (x.1 : Int), .string ⟨x.2.toArray⟩, undef, undef, undef, undef, undef, undef], defers := [] }) ?assign ?body ?done ?stop
  case assign =>
    intro l x W K hK
    gi_wp2
    exact hK
  case body =>
    rintro l pre x W ⟨⟨⟨hbR, hbL⟩, HA⟩, hB⟩ hlt
    have hcR := hbR.cell
    have hfR := hbR.frozen
    have hcL := hbL.cell
    have hx : levelOk x.2 ((x.1 : Int) == (N : Int) - 1) = okAt N x := by
      unfold okAt
      congr 1
      rw [Bool.eq_iff_iff]; simp; omega
    have HX := Lib.hid hx
    clear hx
    gi_wp2_with fail
    refine ⟨trivial, (CallsIn.inRound l (callsIn_wide.2 (topic_rightLevel _ _ _))).mono ?_⟩
    rintro e w' ⟨rfl, rfl⟩
    rw [show levelOk (⟨x.2.toArray⟩ : ByteArray).data.toList ((x.1 : Int) == (N : Int) - 1) = okAt N x from HX.out]
    cases hb : okAt N x
    · have HB := Lib.hid hb
      gi_wp2
      refine ⟨(KeepsOthers.setCell _ _ _).from _, ⟨⟨hbR.set _, rfl⟩, ?_⟩, hB.setCell (p := ⟨w.heap.size, 0, none⟩) (Nat.le_refl _) _⟩
      show List.all _ _ = false
      rw [List.all_append, List.all_cons, HB.out]; simp
    · have HB := Lib.hid hb
      gi_wp2
      refine ⟨KeepsFrom.refl _ _, KeepsWalks.refl _, ⟨⟨hbR, hbL⟩, ?_⟩, hB⟩
      show List.all _ _ = true
      rw [List.all_append, HA.out, List.all_cons, HB.out]; rfl
  case done =>
    rintro D ys W hD rfl ⟨⟨⟨hbR, _⟩, HA⟩, hB⟩ hK
    have hcR := hbR.cell
    have hfR := hbR.frozen
    gi_wp2
    have hK' := (KeepsOthers.setCell W ⟨w.heap.size, 0, none⟩ (.bool true)).same D _ hK rfl
    refine ⟨by simp, .inl ⟨_, _, rfl, run_takeDeferred hK', ?_⟩⟩
    have hc5 := cell_kept (hbR.set (.bool true)).cell (grownBy_putObj' _ D (.deferred none)) (fun r e => by cases e; exact ⟨_, hK', rfl⟩)
    refine ⟨.bool true, ?_, ?_, (hB.setCell (p := ⟨w.heap.size, 0, none⟩) (Nat.le_refl _) _).trans (belowK_b (w := w) (Nat.le_refl _) _ D _ _ (by simp at hD; omega) hK' rfl rfl)⟩
    · simp [results, Try.f45, go_sem, hc5]
    · have e := enum_ok 0 (lv s.data.toList)
      rw [Nat.zero_add, HN.out, HA.out] at e
      rw [← e]
  case stop =>
    rintro D c pre W hD ⟨t, ht⟩ ⟨⟨⟨hbR, rfl⟩, HA⟩, hB⟩ hK
    gi_wp2
    refine ⟨by simp, .inl ⟨_, _, rfl, run_takeDeferred hK, ?_⟩⟩
    have hc5 := cell_kept hbR.cell (grownBy_putObj' _ D (.deferred none)) (fun r e => by cases e; exact ⟨_, hK, rfl⟩)
    refine ⟨.bool false, ?_, ?_, hB.trans (belowK_b (w := w) (Nat.le_refl _) _ D _ _ (by simp at hD; omega) hK rfl rfl)⟩
    · simp [results, Try.f45, go_sem, hc5]
    · have e := enum_ok 0 (lv s.data.toList)
      rw [Nat.zero_add, HN.out, ← ht, List.all_append, HA.out] at e
      rw [← e]; rfl

/-- topic.Filter. -/
theorem topic_Filter (s : ByteArray) (w : World) :
    Calls Try.prog 45 #[.string s] w fun e w' => e = .returned (.bool (filterZ s.data.toList)) ∧ Below w.heap.size w w' := by
  cases hb : bytesOk s.data.toList
  · have H := Lib.hid (show filterZ s.data.toList = false by unfold filterZ; rw [hb]; rfl)
    have HB := Lib.hid hb
    clear hb
    go_enter Try.func45, Try.ntmps45
    go_wp2_with fail
    refine (topic_rightBytes _ _).mono ?_
    rintro e w' ⟨rfl, rfl⟩
    rw [HB.out]
    go_wp2
    refine bodyPost_ret (v := .bool false) (by simp [results, Try.f45, go_sem]) rfl ⟨by rw [H.out], (Below.refl _ _).alloc (Nat.le_refl _) _⟩
  · refine (topic_Filter_ok s w hb).mono ?_
    rintro e w' ⟨rfl, hB⟩
    refine ⟨?_, hB⟩
    unfold filterZ; rw [hb]; rfl

end Go.Proofs.Ytabgedmocdjkcaa
