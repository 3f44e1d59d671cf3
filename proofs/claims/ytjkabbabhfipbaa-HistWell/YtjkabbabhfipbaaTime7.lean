/- Layer 7 (package hist): inTime. -/
import Derived.Test.YtjkabbabhfipbaaCallsIn7
import Derived.Test.YtjkabbabhfipbaaLog7
import Derived.Deep.WholeRow
import Derived.Maps.OwnOps
namespace Go.Proofs.Ytjkabbabhfipbaa
open Go.RowKit

/-- A struct is stored into a block that was just made. -/
theorem wpList_store_new {P : Program} {ops : Array Oper} {rest : List Oper} {op : Oper} {a : Act} {w : World} {Q : Exit → Act → World → Prop} (hgd : op.guard = none) (ty : TypeId) (x y : Operand) (ho : op.op = .store ty x y) (c c' : Array Value)
    (hx : a.eval x = .pointer (some ⟨w.heap.size, 0, none⟩)) (hy : a.eval y = .agg c') (hi : (P.info? ty).map (·.size) = some c'.size) (hs : c.size = c'.size) (h1 : c'.all (·.oneCell') = true)
    (h : wpList P ops Q rest (a.put op.dst undef) (w.alloc (.cells c' ty))) : wpList P ops Q (op :: rest) a (w.alloc (.cells c ty)) :=
  wpList_plain hgd fun _ hK => by
    have hr := run_storeAt_new (P := P) w ty c c' hi hs h1
    unfold Oper.wp execOp
    simp only [ho, hx, hy, hr, Sem.run_bind, Result.andThen_ok, Sem.run_pure]
    exact hK _ _ h
theorem wpList_store_newN {P : Program} {ops : Array Oper} {rest : List Oper} {op : Oper} {a : Act} {w : World} {Q : Exit → Act → World → Prop} (hgd : op.guard = none) (ty : TypeId) (x y : Operand) (ho : op.op = .store ty x y) (n : Nat) (hn : w.heap.size = n) (c c' : Array Value)
    (hx : a.eval x = .pointer (some ⟨n, 0, none⟩)) (hy : a.eval y = .agg c') (hi : (P.info? ty).map (·.size) = some c'.size) (hs : c.size = c'.size) (h1 : c'.all (·.oneCell') = true)
    (h : wpList P ops Q rest (a.put op.dst undef) (w.alloc (.cells c' ty))) : wpList P ops Q (op :: rest) a (w.alloc (.cells c ty)) := by
  subst hn
  exact wpList_store_new hgd ty x y ho c c' hx hy hi hs h1 h
theorem callA_one (c : CallZ) : (callV c).toArray.all (·.oneCell') = true := by simp [callV, Value.oneCell']

/-- Rising, each behind its beginning, no moment twice. -/
def timeB : List CallZ → Int → List Int → Bool
  | [], _, _ => true
  | c :: r, last, S => if c.fr ≤ last ∨ c.to ≤ c.fr ∨ c.fr ∈ S ∨ c.to ∈ S then false else timeB r c.fr (c.to :: S)
theorem timeB_cons (c : CallZ) (r : List CallZ) (last : Int) (S : List Int) : timeB (c :: r) last S = if c.fr ≤ last ∨ c.to ≤ c.fr ∨ c.fr ∈ S ∨ c.to ∈ S then false else timeB r c.fr (c.to :: S) := rfl
def WfCalls (L : List CallZ) : Prop := ∀ c ∈ L, wf64 c.th ∧ wf64 c.pl ∧ wf64 c.fr ∧ wf64 c.to
theorem zeroBool (w : World) : (zeroValue 4).run Try.prog w = .ok (.bool false) w := by kernel_rfl
/-- A set of numbers, as a map. -/
def SetIs (w : World) (b n : Nat) (S : List Int) : Prop := ∃ M, MapF Try.prog 3 w b n M ∧ ∀ x, wf64 x → (M x).getD (.bool false) = .bool (decide (x ∈ S))
theorem SetIs.look {w : World} {b n : Nat} {S : List Int} (h : SetIs w b n S) {x : Int} (hx : wf64 x) : (Instr.lookup 69 (.map (some b)) (.int .i64 x) false).run Try.prog w = .ok (.bool (decide (x ∈ S))) w := by
  obtain ⟨M, hM, hS⟩ := h
  rw [hM.look intKeyed Try.underlying3 Try.underlying69 (zeroBool w) hx, hS x hx]
theorem SetIs.put {w : World} {b n : Nat} {S : List Int} (h : SetIs w b n S) {x : Int} (hx : wf64 x) (hn : n ≤ 1000000) : ∃ w', (Instr.mapUpdate 69 (.map (some b)) (.int .i64 x) (.bool true)).run Try.prog w = .ok () w' ∧ SetIs w' b (n + 1) (x :: S) ∧ Only (· = b) w w' := by
  obtain ⟨M, hM, hS⟩ := h
  obtain ⟨w', hr, hM', ho⟩ := hM.put intKeyed Try.underlying3 Try.underlying69 (by simp only [maxLen]; omega) hx (.bool true)
  refine ⟨w', hr, ⟨_, hM', fun y hy => ?_⟩, ho⟩
  unfold updM
  by_cases e : y = x
  · subst e; simp
  · rw [if_neg e]; simp only [List.mem_cons, e, false_or]; exact hS y hy
theorem SetIs.only {w w' : World} {b n : Nat} {S : List Int} {T : Nat → Prop} (h : SetIs w b n S) (ho : Only T w w') (hb : ¬ T b) : SetIs w' b n S := by
  obtain ⟨M, hM, hS⟩ := h
  exact ⟨M, hM.only ho hb, hS⟩
theorem SetIs.lt {w : World} {b n : Nat} {S : List Int} (h : SetIs w b n S) : b < w.heap.size := by obtain ⟨M, hM, _⟩ := h; exact hM.lt

structure TStand (w wr : World) (b k : Nat) (L : List CallZ) (last : Int) (S : List Int) : Prop where
  set : SetIs wr b k S
  eq : timeB L 0 [] = timeB (L.drop k) last S
  low : Below w.heap.size w wr
set_option maxHeartbeats 2000000 in
theorem hist_inTime {w : World} {v : Value} {L : List CallZ} (h : CallsIn w v L) (hw : WfCalls L) (hL : L.length ≤ 100000) :
    Calls Try.prog 25 #[v] w fun e w' => e = .returned (.bool (timeB L 0 [])) ∧ Below w.heap.size w w' := by
  obtain ⟨a, c, rfl, hr⟩ := h
  have H := Lib.hid hr
  have HW := Lib.hid hw
  clear hr hw
  have hmm := @run_makeMap Try.prog
  go_enter Try.func25, Try.ntmps25
  go_wp2
  go_loopw [4, 10] (fun l i wr => ∃ (k : Nat) (last : Int) (S : List Int), k ≤ L.length ∧ i = .int .i64 k ∧ l = .int .i64 last ∧ Hid (TStand w wr w.heap.size k L last S)) (fun _ i _ => L.length - (intOf i).toNat)
  case atStart => exact ⟨0, 0, [], Nat.zero_le _, rfl, rfl, Lib.hid ⟨⟨_, MapF.made _ _ w, fun x _ => rfl⟩, rfl, (Below.refl _ _).alloc (Nat.le_refl _) _⟩⟩
  case round =>
    obtain ⟨k, last, S, hk, rfl, rfl, T⟩ := hrel
    by_cases hlt : k < L.length
    · obtain ⟨b, off, rfl, hb, hr⟩ := (H.out.below T.out.low).range hlt
      obtain ⟨w1, w2, w3, w4⟩ := HW.out L[k] (List.getElem_mem hlt)
      have hd : L.drop k = L[k] :: L.drop (k + 1) := List.drop_eq_getElem_cons hlt
      generalize L[k] = x at hr hd w1 w2 w3 w4
      have R := Lib.hid hr
      have o1 : Only (fun _ => False) wr (wr.alloc (.cells (callV x).toArray 42)) := (Only.refl _ _).alloc _
      have s1 := T.out.set.only o1 id
      have k13 : (wr.alloc (.cells (callV x).toArray 42)).cell? ⟨wr.heap.size, 13, none⟩ = some (numV x.fr) := (Blk.new (l := callV x)).at (o := 13) rfl
      have k14 : (wr.alloc (.cells (callV x).toArray 42)).cell? ⟨wr.heap.size, 14, none⟩ = some (numV x.to) := (Blk.new (l := callV x)).at (o := 14) rfl
      have l1 := s1.look w3
      have l2 := s1.look w4
      have eq := T.out.eq
      rw [hd, timeB_cons] at eq
      have lo1 : Below w.heap.size w (wr.alloc (.cells (callV x).toArray 42)) := T.out.low.alloc T.out.low.size _
      have LO := Lib.hid lo1
      have S1 := Lib.hid s1
      clear lo1 s1 o1 hr hd
      by_cases p : x.fr ≤ last ∨ x.to ≤ x.fr ∨ x.fr ∈ S ∨ x.to ∈ S
      · rw [if_pos p] at eq
        have EQ := Lib.hid eq
        clear eq
        by_cases p1 : x.fr ≤ last
        · clear p
          go_wp2_with (first | (refine wpList_load_mid rfl 42 _ rfl b (off + k * 15) rfl (callV x) _ R.out Try.underlying42 rfl (by kernel_rfl) ?_) | (refine wpList_store_new rfl 42 _ _ rfl _ (callV x).toArray rfl rfl (by kernel_rfl) rfl (callA_one x) ?_))
          go_ret
          exact ⟨by rw [EQ.out]; rfl, LO.out⟩
        · by_cases p2 : x.to ≤ x.fr
          · clear p
            go_wp2_with (first | (refine wpList_load_mid rfl 42 _ rfl b (off + k * 15) rfl (callV x) _ R.out Try.underlying42 rfl (by kernel_rfl) ?_) | (refine wpList_store_new rfl 42 _ _ rfl _ (callV x).toArray rfl rfl (by kernel_rfl) rfl (callA_one x) ?_))
            go_ret
            exact ⟨by rw [EQ.out]; rfl, LO.out⟩
          · by_cases p3 : x.fr ∈ S
            · clear p
              go_wp2_with (first | (refine wpList_load_mid rfl 42 _ rfl b (off + k * 15) rfl (callV x) _ R.out Try.underlying42 rfl (by kernel_rfl) ?_) | (refine wpList_store_new rfl 42 _ _ rfl _ (callV x).toArray rfl rfl (by kernel_rfl) rfl (callA_one x) ?_))
              go_ret
              exact ⟨by rw [EQ.out]; rfl, LO.out⟩
            · have p4 : x.to ∈ S := by
                rcases p with p | p | p | p
                · exact absurd p p1
                · exact absurd p p2
                · exact absurd p p3
                · exact p
              clear p
              go_wp2_with (first | (refine wpList_load_mid rfl 42 _ rfl b (off + k * 15) rfl (callV x) _ R.out Try.underlying42 rfl (by kernel_rfl) ?_) | (refine wpList_store_new rfl 42 _ _ rfl _ (callV x).toArray rfl rfl (by kernel_rfl) rfl (callA_one x) ?_))
              go_ret
              exact ⟨by rw [EQ.out]; rfl, LO.out⟩
      · rw [if_neg p] at eq
        have EQ := Lib.hid eq
        have p1 : ¬ x.fr ≤ last := fun h => p (.inl h)
        have p2 : ¬ x.to ≤ x.fr := fun h => p (.inr (.inl h))
        have p3 : ¬ x.fr ∈ S := fun h => p (.inr (.inr (.inl h)))
        have p4 : ¬ x.to ∈ S := fun h => p (.inr (.inr (.inr h)))
        clear p eq
        obtain ⟨w5, hrun, s5, o5⟩ := S1.out.put w4 (by omega)
        have k13' : w5.cell? ⟨wr.heap.size, 13, none⟩ = some (numV x.fr) := ((Blk.new (W := wr) (t := 42) (l := callV x)).only o5 (fun e => by have := T.out.set.lt; omega)).at (o := 13) rfl
        have D := Lib.hid (TStand.mk s5 EQ.out (o5.below_step (Nat.le_trans T.out.low.size (by simp)) LO.out (fun i hi => by omega)))
        clear s5 o5
        go_wp2_with (first | (refine wpList_load_mid rfl 42 _ rfl b (off + k * 15) rfl (callV x) _ R.out Try.underlying42 rfl (by kernel_rfl) ?_) | (refine wpList_store_new rfl 42 _ _ rfl _ (callV x).toArray rfl rfl (by kernel_rfl) rfl (callA_one x) ?_))
        go_roundw
        case rel => exact ⟨k + 1, _, _, by omega, by go_num, rfl, D⟩
        case measure => simp [intOf]; omega
    · obtain rfl : k = L.length := by omega
      have eq := Lib.hid T.out.eq
      go_wp2
      go_ret
      exact ⟨by rw [eq.out, List.drop_length]; rfl, T.out.low⟩

end Go.Proofs.Ytjkabbabhfipbaa
