/- Layer 7: slices of calls; IndexFunc, ContainsFunc of open. -/
import Derived.Test.YtjkabbabhfipbaaEndIs7
import Derived.Test.YtjkabbabhfipbaaBase
import Derived.BigCall
import Derived.BigGuard
namespace Go.Proofs.Ytjkabbabhfipbaa
open Go.RowKit

/-- A slice of calls. -/
def CallsIn (w : World) (v : Value) (L : List CallZ) : Prop := ∃ a c, v = .slice a L.length c ∧ RecsIn 15 callV w a L
theorem CallsIn.below {w w' : World} {v : Value} {L : List CallZ} (h : CallsIn w v L) (hb : Below w.heap.size w w') : CallsIn w' v L := by
  obtain ⟨a, c, e, hr⟩ := h
  exact ⟨a, c, e, hr.below hb⟩
theorem CallsIn.own {w : World} {base n : Nat} {v : Value} {L : List CallZ} (h : w.ownsRow base 42 15 v n (callsV L)) (hn : n = L.length) : CallsIn w v L := by
  subst hn
  obtain ⟨a, c, e, hr⟩ := recs_own (f := callV) callV_len h
  exact ⟨a, c, e, hr⟩
theorem RecsIn.range {w : World} {a : Option Addr} {L : List CallZ} (h : RecsIn 15 callV w a L) {k : Nat} (hk : k < L.length) : ∃ b off, a = some ⟨b, off, none⟩ ∧ b < w.heap.size ∧ w.rangeAt b (off + k * 15) (callV L[k]) := by
  obtain ⟨b, off, e, hb, hc⟩ := h.at k hk
  exact ⟨b, off, e, hb, fun j v hv => hc j v hv⟩
theorem hist_open_b (c : CallZ) (w : World) : Calls Try.prog 22 #[callA c] w fun e w' => e = .returned (.bool (c.to == 0)) ∧ Below w.heap.size w w' :=
  (hist_open c w).mono fun _ _ ⟨h, hw⟩ => ⟨h, hw ▸ (Below.refl _ _).alloc (Nat.le_refl _) _⟩
def anyOpen (L : List CallZ) : Bool := L.any (fun c => c.to == 0)
theorem enters22 (args : Array Value) (w : World) : (callFunc 22 args).run Try.prog w = .ok (.enter 22 args) w := by rfl

set_option maxHeartbeats 1000000 in
theorem index_open {w : World} {v : Value} {L : List CallZ} (h : CallsIn w v L) (hL : L.length ≤ 1000000) :
    Calls Try.prog 31 #[v, .func (.func 22) #[] #[]] w fun e w' => ∃ r : Int, e = .returned (.int .i64 r) ∧ decide (0 ≤ r) = anyOpen L ∧ Below w.heap.size w w' := by
  obtain ⟨a, c, rfl, hr⟩ := h
  have H := Lib.hid hr
  clear hr
  go_enter Try.func31, Try.ntmps31
  go_wp2
  go_loopw [8] (fun i wr => ∃ (k : Nat), k ≤ L.length ∧ i = .int .i64 k ∧ Hid (anyOpen (L.take k) = false) ∧ Below w.heap.size w wr) (fun i _ => L.length - (intOf i).toNat)
  case atStart => exact ⟨0, Nat.zero_le _, rfl, rfl, Below.refl _ _⟩
  case round =>
    obtain ⟨k, hk, rfl, F, hB⟩ := hrel
    by_cases hlt : k < L.length
    · obtain ⟨b, off, rfl, hb, hr⟩ := (H.out.below hB).range hlt
      have hF := Lib.hid (show anyOpen (L.take (k + 1)) = (L[k].to == 0) by
        unfold anyOpen; rw [List.take_succ_eq_append_getElem hlt, List.any_append, show (L.take k).any _ = false from F.out]; simp)
      have hA := Lib.hid (show (L[k].to == 0) = true → anyOpen L = true from fun h => List.any_eq_true.2 ⟨L[k], List.getElem_mem hlt, h⟩)
      generalize L[k] = x at hr hF hA
      have R := Lib.hid hr
      clear hr
      go_wp2_with (first | (refine wpList_load_mid rfl 42 _ rfl b (off + k * 15) rfl (callV x) _ R.out Try.underlying42 rfl (by kernel_rfl) ?_))
      refine (hist_open_b x wr).mono ?_
      rintro e w' ⟨rfl, hb'⟩
      by_cases hx : (x.to == 0) = true
      · go_wp2
        go_ret
        exact ⟨k, rfl, by rw [hA.out hx]; simp, below_step hB hb'⟩
      · have hx : (x.to == 0) = false := by simpa using hx
        go_wp2
        go_roundw
        case rel => exact ⟨k + 1, by omega, by go_num, Lib.hid (hF.out.trans hx), below_step hB hb'⟩
        case measure => simp [intOf]; omega
    · obtain rfl : k = L.length := by omega
      go_wp2
      go_ret
      exact ⟨-1, rfl, by rw [← List.take_length (l := L), F.out]; rfl, hB⟩
theorem contains_open {w : World} {v : Value} {L : List CallZ} (h : CallsIn w v L) (hL : L.length ≤ 1000000) :
    Calls Try.prog 24 #[v, .func (.func 22) #[] #[]] w fun e w' => e = .returned (.bool (anyOpen L)) ∧ Below w.heap.size w w' := by
  go_enter Try.func24, Try.ntmps24
  go_wp2_with fail
  refine (index_open h hL).mono ?_
  rintro e w' ⟨r, rfl, hr, hb⟩
  have R := Lib.hid hr
  clear hr
  go_wp2
  go_ret
  exact ⟨by rw [← R.out]; rfl, hb⟩

theorem eql_calls_some (b : Addr) (n c : Nat) (w : World) : (binOp .eql 27 (.slice (some b) n c) (.slice none 0 0)).run Try.prog w = .ok (.bool false) w := by kernel_rfl
theorem eql_calls_none (w : World) : (binOp .eql 27 (.slice none 0 0) (.slice none 0 0)).run Try.prog w = .ok (.bool true) w := by kernel_rfl
theorem callV_one (L : List CallZ) : ∀ v ∈ callsV L, v.oneCell' = true := by
  intro v hv
  obtain ⟨c, _, hc⟩ := List.mem_flatMap.1 hv
  simp [callV] at hc
  rcases hc with rfl | rfl | rfl | rfl | rfl | rfl | rfl | rfl | rfl | rfl | rfl | rfl | rfl | rfl | rfl <;> rfl
theorem clone_calls {w : World} {base : Nat} {v : Value} {L : List CallZ} (h : w.ownsRow base 42 15 v L.length (callsV L)) (hL : L.length ≤ 1000000) :
    Calls Try.prog 23 #[v] w fun e w' => ∃ r, e = .returned r ∧ w'.ownsRow w.heap.size 42 15 r L.length (callsV L) ∧ Below w.heap.size w w' := by
  obtain ⟨i0, hi, hz0, hz1, hz2⟩ := info_at infoCall
  obtain ⟨h0, ⟨rfl, e0⟩ | ⟨g, cap, cur, rfl, h1, h2, h3, h4, h5, h6⟩⟩ := h
  · have hq := eql_calls_none
    have hl : L = [] := List.eq_nil_of_length_eq_zero e0
    subst hl
    go_enter Try.func23, Try.ntmps23
    go_wp2
    go_ret
    exact ⟨_, rfl, World.ownsRow_nil _ _ _ _, Below.refl _ _⟩
  · have hq := eql_calls_some ⟨g, 0, none⟩ L.length cap
    have hown : (w.alloc (.cells #[] 42)).ownsRow w.heap.size 42 15 (.slice (some ⟨w.heap.size, 0, none⟩) 0 0) 0 [] := ⟨rfl, .inr ⟨w.heap.size, 0, #[], rfl, Nat.le_refl _, Blk.new (l := []), Nat.le_refl _, Nat.zero_le _, rfl, rfl⟩⟩
    have hg : (w.alloc (.cells #[] 42)).heap[g]? = some (.cells cur 42 (0, 0)) := (Below.heap_alloc w _ g (Array.getElem?_eq_some_iff.1 h2).1).trans h2
    have hsrc : ∀ j u, (callsV L)[j]? = some u → (w.alloc (.cells #[] 42)).cell? ((⟨g, 0, none⟩ : Addr).add j) = some u := fun j u hu => by
      rw [addr_add, Nat.zero_add]
      rw [← h6, List.getElem?_take] at hu
      split at hu
      · simp [World.cell?, hg]; simpa using hu
      · cases hu
    have K := Lib.hid (And.intro hown (And.intro hsrc h0))
    clear hown hsrc h0 h1 h2 h3 h4 h5 h6 hg
    go_enter Try.func23, Try.ntmps23
    go_wp2_with (at_builtin; refine wpList_append_own _ rfl _ _ 27 rfl w.heap.size 42 i0 (callA default) 15 152 Try.underlying27 hi hz0 hz1 hz2 rfl (by decide) _ _ _ rfl K.out.1 ⟨g, 0, none⟩ L.length cap (callsV L) rfl K.out.2.2 K.out.2.1 (callV_one L) (by simp only [maxLen]; omega) (by omega) (by simp) ?_; intro v1 w1 hown1 hgrow1 hnil1)
    go_wp2
    go_ret
    refine ⟨_, rfl, ?_, ((Below.refl w.heap.size w).alloc (Nat.le_refl _) _).grown hgrow1 (by simp) (fun j e => by cases e; exact Nat.le_refl _)⟩
    simpa using hown1

end Go.Proofs.Ytjkabbabhfipbaa
