/- Layer 7: slices of calls; IndexFunc, ContainsFunc of open. -/
import Derived.Test.YthngehpmoiojfaaEndIs7
import Derived.Test.YthngehpmoiojfaaBase
import Derived.BigCall
import Derived.BigGuard
namespace Go.Proofs.Ythngehpmoiojfaa
open Go.RowKit

/-- A slice of calls. -/
def CallsIn (w : World) (v : Value) (L : List CallZ) : Prop := ∃ a c, v = .slice a L.length c ∧ RecsIn 15 callV w a L
theorem CallsIn.below {w w' : World} {v : Value} {L : List CallZ} (h : CallsIn w v L) (hb : Below w.heap.size w w') : CallsIn w' v L := by
  obtain ⟨a, c, e, hr⟩ := h
  exact ⟨a, c, e, hr.below hb⟩
theorem CallsIn.own {w : World} {base n : Nat} {v : Value} {L : List CallZ} (h : w.ownsRow base 34 15 v n (callsV L)) (hn : n = L.length) : CallsIn w v L := by
  subst hn
  obtain ⟨a, c, e, hr⟩ := recs_own (f := callV) callV_len h
  exact ⟨a, c, e, hr⟩
theorem RecsIn.range {w : World} {a : Option Addr} {L : List CallZ} (h : RecsIn 15 callV w a L) {k : Nat} (hk : k < L.length) : ∃ b off, a = some ⟨b, off, none⟩ ∧ b < w.heap.size ∧ w.rangeAt b (off + k * 15) (callV L[k]) := by
  obtain ⟨b, off, e, hb, hc⟩ := h.at k hk
  exact ⟨b, off, e, hb, fun j v hv => hc j v hv⟩
def anyOpen (L : List CallZ) : Bool := L.any (fun c => c.to == 0)
theorem eql_calls_some (b : Addr) (n c : Nat) (w : World) : (binOp .eql 22 (.slice (some b) n c) (.slice none 0 0)).run Try.prog w = .ok (.bool false) w := by kernel_rfl
theorem eql_calls_none (w : World) : (binOp .eql 22 (.slice none 0 0) (.slice none 0 0)).run Try.prog w = .ok (.bool true) w := by kernel_rfl
theorem callV_one (L : List CallZ) : ∀ v ∈ callsV L, v.oneCell' = true := by
  intro v hv
  obtain ⟨c, _, hc⟩ := List.mem_flatMap.1 hv
  simp [callV] at hc
  rcases hc with rfl | rfl | rfl | rfl | rfl | rfl | rfl | rfl | rfl | rfl | rfl | rfl | rfl | rfl | rfl <;> rfl
end Go.Proofs.Ythngehpmoiojfaa
