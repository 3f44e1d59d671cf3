/- Layer 6 (package sched): a machine's beginning, and all of a run. -/
import Derived.Test.YtfgkickjjeamgaaRun6
import Derived.Laws.AppendOwnNone
namespace Go.Proofs.Ytfgkickjjeamgaa
open Go.RowKit

theorem eql_steps_nil (a : Addr) (n c : Nat) (w : World) : (binOp .eql 35 (.slice (some a) n c) (.slice none 0 0)).run Try.prog w = .ok (.bool false) w := by kernel_rfl
theorem eql_steps_nil' (w : World) : (binOp .eql 35 (.slice none 0 0) (.slice none 0 0)).run Try.prog w = .ok (.bool true) w := by kernel_rfl
/-- slices.Clone of a list of steps. -/
theorem clone_steps {w : World} {tv : Value} {n : Nat} {vs : List Value} (h : SliceK w 1 tv n vs) (hn : n ≤ 1000) (h1 : ∀ u ∈ vs, u.oneCell' = true) :
    Calls Try.prog 21 #[tv] w fun e w' => ∃ v', e = .returned v' ∧ w'.ownsRow w.heap.size 45 1 v' n vs ∧ Below w.heap.size w w' := by
  have q1 := eql_steps_nil
  have q2 := eql_steps_nil'
  obtain ⟨i0, hi, hz0, hz1, hz2⟩ := info_at infoStep
  obtain ⟨hlen, ⟨rfl, rfl⟩ | ⟨b, off, cap, rfl, hcap, hb, hc⟩⟩ := h
  · obtain rfl : vs = [] := List.eq_nil_of_length_eq_zero (by simpa using hlen)
    go_enter Try.func21, Try.ntmps21
    go_wp2
    go_ret
    exact ⟨_, rfl, World.ownsRow_nil _ _ _ _, Below.refl _ _⟩
  · have hown0 : (w.alloc (.cells #[] 45)).ownsRow w.heap.size 45 1 (.slice (some ⟨w.heap.size, 0, none⟩) 0 0) 0 [] :=
      ⟨rfl, .inr ⟨w.heap.size, 0, #[], rfl, Nat.le_refl _, Blk.new (l := []), Nat.le_refl _, Nat.zero_le _, rfl, rfl⟩⟩
    have hsrc : Hid (∀ j u, vs[j]? = some u → (w.alloc (.cells #[] 45)).cell? ((⟨b, off, none⟩ : Addr).add j) = some u) := Lib.hid fun j u hu =>
      CellsAt.get (CellsAt.below hc ((Below.refl w.heap.size w).alloc (Nat.le_refl _) _) hb) j u hu
    have H1 := Lib.hid h1
    clear h1 hc
    go_enter Try.func21, Try.ntmps21
    go_wp2_with (at_builtin; refine wpList_append_own _ rfl _ _ 35 rfl w.heap.size 45 i0 .nilFunc 1 8 Try.underlying35 hi hz0 hz1 hz2 rfl (by decide) _ _ _ rfl hown0 ⟨b, off, none⟩ n cap vs rfl hlen hsrc.out H1.out (by simp only [maxLen]; omega) (by omega) (by simp) ?_; intro v' w1 hown' hgrow _)
    go_ret
    refine ⟨v', rfl, by simpa using hown', ((Below.refl w.heap.size w).alloc (Nat.le_refl _) _).grown hgrow (by simp) (fun k hk => ?_)⟩
    cases hk
    exact Nat.le_refl _

theorem neq_step_nil (f : Nat) (c : Array Value) (w : World) : (binOp .neq 45 (fnV f c) .nilFunc).run Try.prog w = .ok (.bool true) w := by kernel_rfl
theorem neq_nil_nil (w : World) : (binOp .neq 45 .nilFunc .nilFunc).run Try.prog w = .ok (.bool false) w := by kernel_rfl

def cntTo {A : Type} (m : Mach A) (a : A) (k : Nat) : Nat := (List.range k).countP (fun t => !m.fin a t)
theorem cntTo_succ {A : Type} (m : Mach A) (a : A) (k : Nat) : cntTo m a (k + 1) = cntTo m a k + (if m.fin a k = true then 0 else 1) := by
  unfold cntTo
  rw [List.range_succ, List.countP_append, List.countP_singleton]
  cases m.fin a k <;> simp
theorem cntTo_le {A : Type} (m : Mach A) (a : A) (k : Nat) : cntTo m a k ≤ k := by
  have := List.countP_le_length (p := fun t => !m.fin a t) (l := List.range k)
  simpa [cntTo] using this

/-- What a machine's beginning looks like while its threads are counted. -/
structure Count (w : World) (Bm : Nat) (nv : Value) (vs : List Value) (left : Nat) (wr : World) : Prop where
  blk : Blk 52 wr Bm [nv, numV left, .slice none 0 0, numV 0, numV 0]
  next : wr.ownsRow w.heap.size 45 1 nv vs.length vs
  low : w.heap.size ≤ Bm
  below : Below w.heap.size w wr
theorem Count.more {w wr : World} {Bm left : Nat} {nv : Value} {vs : List Value} (h : Count w Bm nv vs left wr) : Count w Bm nv vs (left + 1) (wr.setCell ⟨Bm, 1, none⟩ (.int .i64 ((left : Int) + 1))) := by
  have ho : Only (· = Bm) wr (wr.setCell ⟨Bm, 1, none⟩ (.int .i64 ((left : Int) + 1))) := (Only.refl (· = Bm) wr).setCell (p := ⟨Bm, 1, none⟩) (.inl rfl) _
  have hl := h.low
  refine ⟨?_, own_only h.next ho (fun k hk e => by subst e; exact blk_apart h.blk h.next hk (by decide) rfl), h.low, ho.below_step h.below.size h.below (fun i hi e => by omega)⟩
  exact h.blk.set 1 (.int .i64 ((left : Int) + 1))
theorem Count.stand {A : Type} {m : Mach A} {K : Nat → Prop} {inv : (Nat → Prop) → A → List Value → World → Prop} (S : Sys m K inv) {w wr : World} {Bm : Nat} {nv : Value} {vs : List Value} {a : A} {M0 : Nat → Prop} (h : Count w Bm nv vs (leftN m a) wr) (hv : inv M0 a vs w) : Stand m inv w.heap.size M0 Bm nv ⟨a, [], 0⟩ wr := by
  have hlow := h.low
  have ho : ∀ M : Nat → Prop, Only M w wr := fun M => Only.of_below h.below M
  rcases hob : nv.ownBlock with _ | g
  · exact ⟨h.below.size, fun k => M0 k ∨ k = Bm, _, vs, fun _ hk => .inl hk, ⟨h.blk, h.next, World.ownsRow_nil _ _ _ _, .inr rfl, hlow, fun k hk => (by rw [hob] at hk; cases hk), fun k hk => (by simp [Value.ownBlock] at hk)⟩, S.more hv hlow h.blk.lt (ho _)⟩
  · have hg := (h.next.lt g hob).1
    exact ⟨h.below.size, fun k => (M0 k ∨ k = Bm) ∨ k = g, _, vs, fun _ hk => .inl (.inl hk), ⟨h.blk, h.next, World.ownsRow_nil _ _ _ _, .inl (.inr rfl), hlow, fun k hk => (by rw [hob] at hk; cases hk; exact .inr rfl), fun k hk => (by simp [Value.ownBlock] at hk)⟩, S.frame hv (fun _ hk => .inl (.inl hk)) (fun k hk => by
      rcases hk with (hk | rfl) | rfl
      · exact .inl hk
      · exact .inr ⟨hlow, h.blk.lt⟩
      · exact .inr (h.next.lt _ hob)) (ho _)⟩

theorem sched_begin {A : Type} {m : Mach A} {K : Nat → Prop} {inv : (Nat → Prop) → A → List Value → World → Prop} (S : Sys m K inv) {M0 : Nat → Prop} {a : A} {vs : List Value} {w : World} (hv : inv M0 a vs w) {tv : Value} (ht : SliceK w 1 tv m.n vs) (hmn : m.n ≤ 1000) :
    Calls Try.prog 15 #[tv] w fun e w' => ∃ Bm nv, e = .returned (.pointer (some ⟨Bm, 0, none⟩)) ∧ Stand m inv w.heap.size M0 Bm nv ⟨a, [], 0⟩ w' ∧ Below w.heap.size w w' := by
  have hn := S.len hv
  have hval := S.val hv
  have h1 : ∀ u ∈ vs, u.oneCell' = true := fun u hu => by
    obtain ⟨t, ht, rfl⟩ := List.mem_iff_getElem.1 hu
    rcases hval t _ (List.getElem?_eq_getElem ht) with ⟨e, _⟩ | ⟨f, c, e, _⟩ <;> rw [e] <;> rfl
  have HV := Lib.hid (And.intro hv (And.intro ht h1))
  have VAL := Lib.hid hval
  have q1 := neq_step_nil
  have q2 := neq_nil_nil
  clear hv ht hval h1
  go_enter Try.func15, Try.ntmps15
  go_wp2_with fail
  refine (clone_steps HV.out.2.1 hmn HV.out.2.2).mono ?_
  rintro e w1 ⟨nv, rfl, hown, hB⟩
  obtain ⟨na, nc, rfl⟩ : ∃ na nc, nv = .slice na m.n nc := by
    rcases hown.2 with ⟨e, h0⟩ | ⟨g, cap, cur, e, _⟩
    · exact ⟨none, 0, by rw [e, h0]⟩
    · exact ⟨_, _, e⟩
  have hcnt : Count w w1.heap.size (.slice na m.n nc) vs 0 (w1.alloc (.cells #[.slice na m.n nc, numV 0, .slice none 0 0, numV 0, numV 0] 52)) := by
    rw [← hn] at hown ⊢
    exact ⟨Blk.new (l := [.slice na vs.length nc, numV 0, .slice none 0 0, numV 0, numV 0]), hown.alloc _, hB.size, hB.alloc hB.size _⟩
  have c0 := hcnt.blk.at (o := 0) rfl
  have C := Lib.hid hcnt
  clear hcnt hown hB
  go_wp2_with fail
  go_loopw [5, 15] (fun _ i wr => ∃ (k : Nat), k ≤ m.n ∧ i = .int .i64 k ∧ Hid (Count w w1.heap.size (.slice na m.n nc) vs (cntTo m a k) wr)) (fun _ i _ => m.n - (intOf i).toNat)
  case atStart => exact ⟨0, Nat.zero_le _, rfl, C⟩
  case round =>
    clear C c0
    obtain ⟨k, hk, rfl, C⟩ := hrel
    by_cases hlt : k < m.n
    · have hlt' : k < vs.length := by omega
      have c1 := C.out.blk.at (o := 1) rfl
      have f1 := C.out.blk.frozen 1
      have hle := cntTo_le m a k
      obtain ⟨g, rfl, hcell⟩ : ∃ g, na = some ⟨g, 0, none⟩ ∧ wr.cell? ⟨g, k, none⟩ = some vs[k] := by
        rcases C.out.next.2 with ⟨_, h0⟩ | ⟨g, cap, cur, e, _⟩
        · omega
        · obtain rfl : na = some ⟨g, 0, none⟩ := by injection e
          have hc := C.out.next.cells (g := g) rfl k _ (List.getElem?_eq_getElem hlt')
          rw [addr_add, Nat.zero_add] at hc
          exact ⟨g, rfl, hc⟩
      have N := Lib.hid (cntTo_succ m a k)
      rcases VAL.out k _ (List.getElem?_eq_getElem hlt') with ⟨e1, e2⟩ | ⟨f, c, e1, _, e2⟩
      · rw [e1] at hcell
        have N2 := Lib.hid (show cntTo m a (k + 1) = cntTo m a k by rw [N.out, e2]; simp)
        clear N e1 e2
        go_wp2
        go_roundw
        case rel => exact ⟨k + 1, by omega, by go_num, by rw [N2.out]; exact C⟩
        case measure => simp [intOf]; omega
      · rw [e1] at hcell
        have N2 := Lib.hid (show cntTo m a (k + 1) = cntTo m a k + 1 by rw [N.out, e2]; simp)
        clear N e1 e2
        go_wp2
        go_roundw
        case rel => exact ⟨k + 1, by omega, by go_num, by rw [N2.out]; exact Lib.hid C.out.more⟩
        case measure => simp [intOf]; omega
    · obtain rfl : k = m.n := by omega
      go_wp2
      go_ret
      exact ⟨_, _, rfl, Count.stand S C.out HV.out.1, C.out.below⟩

end Go.Proofs.Ytfgkickjjeamgaa
