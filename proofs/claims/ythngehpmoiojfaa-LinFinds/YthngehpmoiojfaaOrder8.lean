/- Layer 8 (package lin): Order, Count. -/
import Derived.Test.YthngehpmoiojfaaFind8
import Derived.Carry
namespace Go.Proofs.Ythngehpmoiojfaa
open Go.RowKit Go.Maps

def D24 : List Bool := List.replicate 24 false
theorem eql_do_nil (w : World) : (binOp .eql 41 (fn8 21) .nilFunc).run Try.prog w = .ok (.bool false) w := by kernel_rfl
theorem eql_key_nil (w : World) : (binOp .eql 42 (fn8 22) .nilFunc).run Try.prog w = .ok (.bool false) w := by kernel_rfl
theorem mcells (w : World) : (w.alloc (.cells (mV st0).toArray 44)).cell? ⟨w.heap.size, 0, none⟩ = some (numV 0) ∧ (w.alloc (.cells (mV st0).toArray 44)).cell? ⟨w.heap.size, 1, none⟩ = some (.string ByteArray.empty) ∧
    (w.alloc (.cells (mV st0).toArray 44)).cell? ⟨w.heap.size, 2, none⟩ = some (fn8 21) ∧ (w.alloc (.cells (mV st0).toArray 44)).cell? ⟨w.heap.size, 3, none⟩ = some (fn8 22) :=
  ⟨(Blk.new (l := mV st0)).at (o := 0) rfl, (Blk.new (l := mV st0)).at (o := 1) rfl, (Blk.new (l := mV st0)).at (o := 2) rfl, (Blk.new (l := mV st0)).at (o := 3) rfl⟩
theorem order_big {w : World} {v : Value} {L : List CallZ} (hL : CallsIn w v L) (hl : 24 < L.length) (hl2 : L.length ≤ 100000) :
    Calls Try.prog 9 #[mA st0, v] w fun e w' => e = .returned (.tuple #[.slice none 0 0, .bool false]) ∧ Below w.heap.size w w' := by
  obtain ⟨a, c, rfl, hr⟩ := hL
  have q1 := eql_do_nil
  have q2 := eql_key_nil
  obtain ⟨m0, m1, m2, m3⟩ := mcells w
  clear hr
  generalize L.length = n at *
  go_enter Try.func9, Try.ntmps9
  go_wp2
  go_ret2
  exact ⟨rfl, (Below.refl _ _).alloc (Nat.le_refl _) _⟩
def se0 : Se := ⟨.slice none 0 0, D24, [], 0, 0⟩
theorem seM (a : Option Addr) (L : List CallZ) (c : Nat) (w : World) : [numV 0, .string ByteArray.empty, fn8 21, fn8 22, .slice a L.length c, .bool false, .bool false, .bool false, .bool false, .bool false, .bool false, .bool false, .bool false, .bool false, .bool false, .bool false, .bool false, .bool false, .bool false, .bool false, .bool false, .bool false, .bool false, .bool false, .bool false, .bool false, .bool false, .bool false, .bool false, .slice none 0 0, .map (some (w.heap.size + 1)), .int .i64 0] = seV st0 (.slice a L.length c) (.map (some (w.heap.size + 1))) se0 := rfl
theorem seN (a : Option Addr) (L : List CallZ) (c : Nat) : [numV 0, .string ByteArray.empty, fn8 21, fn8 22, .slice a L.length c, .bool false, .bool false, .bool false, .bool false, .bool false, .bool false, .bool false, .bool false, .bool false, .bool false, .bool false, .bool false, .bool false, .bool false, .bool false, .bool false, .bool false, .bool false, .bool false, .bool false, .bool false, .bool false, .bool false, .bool false, .slice none 0 0, .map none, .int .i64 0] = seV st0 (.slice a L.length c) (.map none) se0 := rfl
theorem calls_low {w w' : World} {a : Option Addr} {c : Nat} {L : List CallZ} (h : CallsIn w (.slice a L.length c) L) (hb : Below w.heap.size w w') : CallsK (fun k => k < w.heap.size) w' (.slice a L.length c) L := by
  obtain ⟨a', c', e, hr⟩ := h
  cases e
  refine ⟨a, c, rfl, hr.below hb, fun b o e hp => ?_⟩
  obtain ⟨b', off, e', hlt, _⟩ := hr.at 0 hp
  rw [e] at e'
  cases e'
  exact hlt
theorem low_below {w w3 w' : World} (h : Below w.heap.size w w3) (ho : Only (fun k => ¬ k < w.heap.size) w3 w') : Below w.heap.size w w' := Only.below_step h.size h ho (fun _ hi e => e hi)
/-- A search's beginning. -/
theorem se_begin {w w2 w3 : World} {a : Option Addr} {c : Nat} {L : List CallZ} (hL : CallsIn w (.slice a L.length c) L) (e2 : (w.alloc (.cells (mV st0).toArray 44)).alloc (.map #[] 0) = w2) {Z : Array Value}
    (hB : Blk 65 w3 (w.heap.size + 1 + 1) (seV st0 (.slice a L.length c) (.map (some (w.heap.size + 1))) se0)) (ho : Only (· = w.heap.size + 1 + 1) (w2.alloc (.cells Z 65)) w3) :
    SeIs (fun k => k < w.heap.size) w3 (w.heap.size + 1 + 1) st0 L (.slice a L.length c) (.map (some (w.heap.size + 1))) se0 ∧ Below w.heap.size w w3 := by
  have hb2 : Below w.heap.size w (w2.alloc (.cells Z 65)) := by rw [← e2]; exact (((Below.refl _ _).alloc (Nat.le_refl _) _).alloc (by simp) _).alloc (by simp; omega) _
  have hb3 : Below w.heap.size w w3 := Only.below_step hb2.size hb2 ho (fun i hi e => by omega)
  have hm : MapV Try.prog 74 w2 (w.heap.size + 1) 0 (fun _ => none) := by
    rw [← e2]
    have := MapV.made Try.prog 74 (w.alloc (.cells (mV st0).toArray 44))
    simpa using this
  refine ⟨⟨hB, List.length_replicate, calls_low hL hb3, World.ownsRow_nil _ _ _ _, .inr ⟨_, fun _ => none, rfl, by omega, ?_, fun D s v _ h => by cases h⟩, by omega, fun g hg => by simp [se0, Value.ownBlock] at hg, fun k hk => Nat.lt_of_lt_of_le hk hb3.size⟩, hb3⟩
  exact (hm.only ((Only.refl (fun _ => False) w2).alloc _) id).only ho (by omega)
theorem lin_Order {w : World} {v : Value} {L : List CallZ} {c : Nat} (hL : CallsIn w v L) (hl : L.length ≤ 24) (hc : c ≤ 1000) (hp : ∀ y ∈ L, y.op.p.size ≤ c) (hcost : costZ L L.length D24 < maxLen) :
    Calls Try.prog 9 #[mA st0, v] w fun e w' => ∃ r, e = .returned (.tuple #[r, .bool (resF L D24 st0).isSome]) ∧ NumsIn w' r ((resF L D24 st0).getD []) ∧ Below w.heap.size w w' := by
  have HL := Lib.hid hL
  obtain ⟨a, c', rfl, hr⟩ := hL
  have q1 := eql_do_nil
  have q2 := eql_key_nil
  obtain ⟨m0, m1, m2, m3⟩ := mcells w
  have hd : decide (24 < L.length) = false := by simpa using hl
  have P := Lib.hid (And.intro hp hcost)
  have hmm := @run_makeMap Try.prog
  obtain ⟨w2, e2⟩ : ∃ w2, (w.alloc (.cells (mV st0).toArray 44)).alloc (.map #[] 0) = w2 := ⟨_, rfl⟩
  have E2 := Lib.hid e2
  have hs2 : w2.heap.size = w.heap.size + 1 + 1 := by rw [← e2]; simp
  clear hr hp hcost e2
  go_enter Try.func9, Try.ntmps9
  go_upto_region 3 with fail
  go_wp2_with ((with_reducible show wpList _ _ _ (⟨none, .store 65 _ _, _, _, _, _⟩ :: _) _ _); rw [E2.out]; refine wpList_store_blk rfl 65 _ _ rfl 65 (w.heap.size + 1 + 1) [Value.int .i64 0, .string ByteArray.empty, .nilFunc, .nilFunc, .slice none 0 0, .bool false, .bool false, .bool false, .bool false, .bool false, .bool false, .bool false, .bool false, .bool false, .bool false, .bool false, .bool false, .bool false, .bool false, .bool false, .bool false, .bool false, .bool false, .bool false, .bool false, .bool false, .bool false, .bool false, .bool false, .slice none 0 0, .map none, .int .i64 0] (seV st0 (.slice a L.length c') (.map (some (w.heap.size + 1))) se0) rfl rfl (Blk.newN hs2) rfl (by kernel_rfl) (by simp [seV, mV, se0, D24, List.replicate, Value.oneCell']) ?_; intro w3 hB3 ho3; have S3 := Lib.hid (se_begin HL.out E2.out hB3 ho3); have k0 : w3.cell? ⟨w.heap.size + 1 + 1, 0, none⟩ = some (numV 0) := hB3.at (o := 0) rfl; have k1 : w3.cell? ⟨w.heap.size + 1 + 1, 1, none⟩ = some (.string ByteArray.empty) := hB3.at (o := 1) rfl; clear hB3 ho3)
  refine (se_find hl hc P.out.1 L.length (fun k => k < w.heap.size) w3 se0 st0 S3.out.1 (nU_none L 24) (by simp [se0]) (stOk0 c) (by simp [se0]) (by simp [se0, zeroF]) (by simpa [se0] using P.out.2)).mono ?_
  rintro e w4 ⟨r, x4, rfl, h4, o4, g4⟩
  replace g4 : GoTo (resF L D24 st0) (zeroF D24 st0) (costZ L L.length D24) se0 r x4 := g4
  have B4 := Lib.hid (low_below S3.out.2 o4)
  cases hres : resF L D24 st0 with
  | none =>
    rw [hres] at g4
    obtain ⟨rfl, _⟩ := g4
    clear h4 o4
    go_wp2
    go_ret2
    exact ⟨_, by rw [hres]; rfl, by rw [hres]; exact ⟨rfl, .inl ⟨rfl, rfl⟩⟩, B4.out⟩
  | some t =>
    rw [hres] at g4
    obtain ⟨rfl, hO⟩ := g4
    have c29 := h4.ovAt
    have NR := Lib.hid (SliceK.of_own h4.own)
    rw [show x4.O = t from hO] at NR
    obtain ⟨oa, oc, oe⟩ := own_form h4.own
    rw [oe] at c29 NR
    clear h4 o4 hO oe
    go_wp2
    go_ret2
    exact ⟨_, by rw [hres]; rfl, by rw [hres]; exact NR.out, B4.out⟩

theorem count_big {w : World} {v : Value} {L : List CallZ} (hL : CallsIn w v L) (hl : 7 < L.length) (hl2 : L.length ≤ 100000) :
    Calls Try.prog 12 #[mA st0, v] w fun e w' => e = .returned (.int .i64 (-1)) ∧ Below w.heap.size w w' := by
  obtain ⟨a, c, rfl, hr⟩ := hL
  have q1 := eql_do_nil
  obtain ⟨m0, m1, m2, m3⟩ := mcells w
  clear hr
  generalize L.length = n at *
  go_enter Try.func12, Try.ntmps12
  go_wp2
  go_ret
  exact ⟨rfl, (Below.refl _ _).alloc (Nat.le_refl _) _⟩
/-- A count's beginning. -/
theorem se_beginN {w w3 : World} {a : Option Addr} {c : Nat} {L : List CallZ} (hL : CallsIn w (.slice a L.length c) L) {Z : Array Value}
    (hB : Blk 65 w3 (w.heap.size + 1) (seV st0 (.slice a L.length c) (.map none) se0)) (ho : Only (· = w.heap.size + 1) ((w.alloc (.cells (mV st0).toArray 44)).alloc (.cells Z 65)) w3) :
    SeIs (fun k => k < w.heap.size) w3 (w.heap.size + 1) st0 L (.slice a L.length c) (.map none) se0 ∧ Below w.heap.size w w3 := by
  have hb2 : Below w.heap.size w ((w.alloc (.cells (mV st0).toArray 44)).alloc (.cells Z 65)) := ((Below.refl _ _).alloc (Nat.le_refl _) _).alloc (by simp) _
  have hb3 : Below w.heap.size w w3 := Only.below_step hb2.size hb2 ho (fun i hi e => by omega)
  exact ⟨⟨hB, List.length_replicate, calls_low hL hb3, World.ownsRow_nil _ _ _ _, .inl rfl, by omega, fun g hg => by simp [se0, Value.ownBlock] at hg, fun k hk => Nat.lt_of_lt_of_le hk hb3.size⟩, hb3⟩
theorem lin_Count {w : World} {v : Value} {L : List CallZ} {c : Nat} (hL : CallsIn w v L) (hl : L.length ≤ 7) (hp : ∀ y ∈ L, y.op.p.size ≤ c) (hn : cntF L D24 st0 ≤ 1000000) (hcost : costZ L L.length D24 < maxLen) :
    Calls Try.prog 12 #[mA st0, v] w fun e w' => e = .returned (.int .i64 (cntF L D24 st0 : Int)) ∧ Below w.heap.size w w' := by
  have HL := Lib.hid hL
  obtain ⟨a, c', rfl, hr⟩ := hL
  have q1 := eql_do_nil
  obtain ⟨m0, m1, m2, m3⟩ := mcells w
  have hd : decide (7 < L.length) = false := by simpa using hl
  have P := Lib.hid (And.intro hp (And.intro hn hcost))
  obtain ⟨w2, e2⟩ : ∃ w2, w.alloc (.cells (mV st0).toArray 44) = w2 := ⟨_, rfl⟩
  have E2 := Lib.hid e2
  have hs2 : w2.heap.size = w.heap.size + 1 := by rw [← e2]; simp
  clear hr hp hcost hn e2
  go_enter Try.func12, Try.ntmps12
  go_upto_region 5 with fail
  go_wp2_with ((with_reducible show wpList _ _ _ (⟨none, .store 65 _ _, _, _, _, _⟩ :: _) _ _); rw [E2.out]; refine wpList_store_blk rfl 65 _ _ rfl 65 (w.heap.size + 1) [Value.int .i64 0, .string ByteArray.empty, .nilFunc, .nilFunc, .slice none 0 0, .bool false, .bool false, .bool false, .bool false, .bool false, .bool false, .bool false, .bool false, .bool false, .bool false, .bool false, .bool false, .bool false, .bool false, .bool false, .bool false, .bool false, .bool false, .bool false, .bool false, .bool false, .bool false, .bool false, .bool false, .slice none 0 0, .map none, .int .i64 0] (seV st0 (.slice a L.length c') (.map none) se0) rfl rfl (Blk.newN hs2) rfl (by kernel_rfl) (by simp [seV, mV, se0, D24, List.replicate, Value.oneCell']) ?_; intro w3 hB3 ho3; have S3 := Lib.hid (se_beginN HL.out hB3 (E2.out ▸ ho3)); have k0 : w3.cell? ⟨w.heap.size + 1, 0, none⟩ = some (numV 0) := hB3.at (o := 0) rfl; have k1 : w3.cell? ⟨w.heap.size + 1, 1, none⟩ = some (.string ByteArray.empty) := hB3.at (o := 1) rfl; clear hB3 ho3)
  refine (se_tally (mv := .map none) (by omega) P.out.1 L.length (fun k => k < w.heap.size) w3 se0 st0 S3.out.1 (nU_none L 24) (by simp [se0]) (stOk0 c) (by simp [se0]) (by have := P.out.2.1; simp only [se0]; omega) (by simpa [se0] using P.out.2.2)).mono ?_
  rintro e w4 ⟨r, x4, rfl, h4, o4, g4⟩
  replace g4 : GoTo none (cntF L D24 st0) (costZ L L.length D24) se0 r x4 := g4
  have B4 := Lib.hid (low_below S3.out.2 o4)
  obtain ⟨rfl, _, _, hf, _⟩ := g4
  have c31 := h4.fndAt
  rw [hf, show se0.fnd = 0 from rfl, Int.zero_add] at c31
  clear h4 o4 hf
  go_wp2
  go_ret
  exact ⟨rfl, B4.out⟩

end Go.Proofs.Ythngehpmoiojfaa
