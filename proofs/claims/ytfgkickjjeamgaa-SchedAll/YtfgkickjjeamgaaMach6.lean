/- Layer 6 (package sched): a machine that runs threads: contracts of over and call, whatever the steps are. -/
import Derived.Test.YtfgkickjjeamgaaPlain6
import Derived.Test.YtfgkickjjeamgaaNums
import Derived.Test.YtfgkickjjeamgaaBlk
import Derived.Deep.AppendLies
import Derived.Lib.Hide
import Derived.WalkKit
import Derived.BigCall
import Derived.BigGuard
namespace Go.Proofs.Ytfgkickjjeamgaa
open Go.RowKit

abbrev fnV (f : Nat) (c : Array Value) : Value := .func (.func f) #[] c
/-- A function with a body of its own. -/
def Enters (f : Nat) : Prop := ∀ (args : Array Value) (w : World), (callFunc f args).run Try.prog w = .ok (.enter f args) w

/-- Steps that keep to a reckoning: what lies in blocks of M they neither need nor touch, what lies in blocks of K they don't touch. -/
structure Sys {A : Type} (m : Mach A) (K : Nat → Prop) (inv : (Nat → Prop) → A → List Value → World → Prop) : Prop where
  len : ∀ {M a vs w}, inv M a vs w → vs.length = m.n
  val : ∀ {M a vs w}, inv M a vs w → ∀ (t : Nat) (v : Value), vs[t]? = some v → (v = .nilFunc ∧ m.fin a t = true) ∨ (∃ f c, v = fnV f c ∧ Enters f ∧ m.fin a t = false)
  frame : ∀ {M M' a vs w w'}, inv M a vs w → (∀ k, M k → M' k) → (∀ k, M' k → M k ∨ (w.heap.size ≤ k ∧ k < w'.heap.size)) → Only M' w w' → inv M' a vs w'
  step : ∀ {M a vs w}, inv M a vs w → ∀ (t : Nat) f c, vs[t]? = some (fnV f c) → Calls Try.prog f c w fun e w' =>
    ∃ v', e = .returned (.tuple #[v', .bool (m.go a t).2]) ∧ Only (fun k => ¬ M k ∧ ¬ K k) w w' ∧ inv M (m.go a t).1 (if (m.go a t).2 = true then vs.set t v' else vs) w'

theorem Sys.still {A : Type} {m : Mach A} {K : Nat → Prop} {inv : (Nat → Prop) → A → List Value → World → Prop} (S : Sys m K inv) {M : Nat → Prop} {a : A} {vs : List Value} {w w' : World} (h : inv M a vs w) (ho : Only M w w') : inv M a vs w' := S.frame h (fun _ h => h) (fun _ h => .inl h) ho
theorem Sys.more {A : Type} {m : Mach A} {K : Nat → Prop} {inv : (Nat → Prop) → A → List Value → World → Prop} (S : Sys m K inv) {M : Nat → Prop} {a : A} {vs : List Value} {w w' : World} (h : inv M a vs w) {B : Nat} (h1 : w.heap.size ≤ B) (h2 : B < w'.heap.size) (ho : Only (fun k => M k ∨ k = B) w w') : inv (fun k => M k ∨ k = B) a vs w' :=
  S.frame h (fun _ h => .inl h) (fun _ h => h.imp id fun e => by subst e; exact ⟨h1, h2⟩) ho

/-- A machine's memory. -/
structure MachIs (w : World) (base : Nat) (M : Nat → Prop) (Bm : Nat) (nv mv : Value) (vs : List Value) (left : Nat) (moves : List Int) (calls : Nat) : Prop where
  blk : Blk 52 w Bm [nv, numV left, mv, numV calls, numV 0]
  next : w.ownsRow base 45 1 nv vs.length vs
  moves : w.ownsRow base 3 1 mv moves.length (moves.map numV)
  mb : M Bm
  bb : base ≤ Bm
  mn : ∀ k, nv.ownBlock = some k → M k
  mm : ∀ k, mv.ownBlock = some k → M k

theorem eql_step_nil (f : Nat) (c : Array Value) (w : World) : (binOp .eql 45 (fnV f c) .nilFunc).run Try.prog w = .ok (.bool false) w := by kernel_rfl
theorem eql_nil_nil (w : World) : (binOp .eql 45 .nilFunc .nilFunc).run Try.prog w = .ok (.bool true) w := by kernel_rfl

theorem mach_over {base Bm left calls : Nat} {M : Nat → Prop} {nv mv : Value} {vs : List Value} {moves : List Int} {w : World} (h : MachIs w base M Bm nv mv vs left moves calls) :
    Calls Try.prog 22 #[.pointer (some ⟨Bm, 0, none⟩)] w fun e w' => e = .returned (.bool (decide (left = 0) || decide (65536 ≤ moves.length))) ∧ w = w' := by
  have c1 := h.blk.at (o := 1) rfl
  have c2 := h.blk.at (o := 2) rfl
  obtain ⟨a, c, rfl⟩ : ∃ a c, mv = .slice a moves.length c := by
    rcases h.moves.2 with ⟨rfl, h0⟩ | ⟨g, cap, cur, rfl, _⟩
    · exact ⟨none, 0, by rw [h0]⟩
    · exact ⟨_, _, rfl⟩
  clear h
  by_cases hz : left = 0
  · subst hz
    go_enter Try.func22, Try.ntmps22
    go_wp2
    go_ret
    exact ⟨by simp, rfl⟩
  · have hz1 : ((left : Int) == 0) = false := by simp [hz]
    go_enter Try.func22, Try.ntmps22
    go_wp2
    go_ret
    refine ⟨?_, rfl⟩
    simp [hz]
    omega

/-- Two blocks of different types lie apart. -/
theorem blk_apart {w : World} {t e : TypeId} {B base g n : Nat} {l : List Value} {v : Value} {xs : List Value} {size : Nat} (h : Blk t w B l) (ho : w.ownsRow base e size v n xs) (hg : v.ownBlock = some g) (hne : t ≠ e) : B ≠ g := by
  rintro rfl
  rcases ho.2 with ⟨rfl, _⟩ | ⟨g', cap, cur, rfl, _, h2, _⟩
  · simp [Value.ownBlock] at hg
  · simp [Value.ownBlock] at hg
    subst hg
    rw [show w.heap[g']? = _ from h] at h2
    cases h2
    exact hne rfl
theorem rows_apart6 {w : World} {t e : TypeId} {base base' n n' : Nat} {v v' : Value} {xs xs' : List Value} {size size' g g' : Nat} (h : w.ownsRow base t size v n xs) (h' : w.ownsRow base' e size' v' n' xs') (hg : v.ownBlock = some g) (hg' : v'.ownBlock = some g') (hne : t ≠ e) : g ≠ g' := by
  rintro rfl
  rcases h.2 with ⟨rfl, _⟩ | ⟨k, cap, cur, rfl, _, h2, _⟩
  · simp [Value.ownBlock] at hg
  · rcases h'.2 with ⟨rfl, _⟩ | ⟨k', cap', cur', rfl, _, h2', _⟩
    · simp [Value.ownBlock] at hg'
    · simp [Value.ownBlock] at hg hg'
      subst hg; subst hg'
      rw [h2] at h2'
      cases h2'
      exact hne rfl
theorem own_only {w w' : World} {S : Nat → Prop} {e : TypeId} {base n size : Nat} {v : Value} {xs : List Value} (h : w.ownsRow base e size v n xs) (ho : Only S w w') (hS : ∀ k, v.ownBlock = some k → ¬ S k) : w'.ownsRow base e size v n xs := by
  obtain ⟨h0, h1 | ⟨g, cap, cur, rfl, h1, h2, h3⟩⟩ := h
  · exact ⟨h0, .inl h1⟩
  · exact ⟨h0, .inr ⟨g, cap, cur, rfl, h1, (ho.block g (Array.getElem?_eq_some_iff.1 h2).1 (hS g rfl)).trans h2, h3⟩⟩
theorem grown_only {w w' : World} {row : Option Nat} (h : w.grownBy w' row) : Only (fun k => row = some k) w w' :=
  ⟨h.os, h.tape, h.output, h.size, fun k hk hn => h.block k hk (fun e => hn e.symm)⟩

/-- A machine that has come to s, whatever lies in blocks of M0 (and was there ahead of it). -/
structure Stand {A : Type} (m : Mach A) (inv : (Nat → Prop) → A → List Value → World → Prop) (base : Nat) (M0 : Nat → Prop) (Bm : Nat) (nv : Value) (s : RS A) (w : World) : Prop where
  low : base ≤ w.heap.size
  ex : ∃ M mv vs, (∀ k, M0 k → M k) ∧ MachIs w base M Bm nv mv vs (leftN m s.a) s.moves s.calls ∧ inv M s.a vs w
/-- What may have turned. -/
abbrev Turns (base : Nat) (M0 K : Nat → Prop) (w w' : World) : Prop := Only (fun k => (¬ M0 k ∧ ¬ K k) ∨ base ≤ k) w w'

theorem stand_over {A : Type} {m : Mach A} {inv : (Nat → Prop) → A → List Value → World → Prop} {base Bm : Nat} {M0 : Nat → Prop} {nv : Value} {s : RS A} {w : World} (h : Stand m inv base M0 Bm nv s w) :
    Calls Try.prog 22 #[.pointer (some ⟨Bm, 0, none⟩)] w fun e w' => e = .returned (.bool (s.over m)) ∧ w = w' := by
  obtain ⟨_, M, mv, vs, _, h1, _⟩ := h
  exact mach_over h1

/-- A call that calls nothing. -/
theorem mach_call_idle {base Bm left calls : Nat} {M : Nat → Prop} {nv mv : Value} {vs : List Value} {moves : List Int} {w : World} (h : MachIs w base M Bm nv mv vs left moves calls) (t : Int)
    (hi : t < 0 ∨ (vs.length : Int) ≤ t ∨ vs[t.toNat]? = some .nilFunc) :
    Calls Try.prog 23 #[.pointer (some ⟨Bm, 0, none⟩), .int .i64 t] w fun e w' => (∃ x, e = .returned x) ∧ w = w' := by
  have c0 := h.blk.at (o := 0) rfl
  by_cases h0 : t < 0
  · go_enter Try.func23, Try.ntmps23
    go_wp2
    ((try simp only [Exit.inBlock, Exit.then]); refine bodyPost_ret (results_none rfl _ _ _) rfl ?_)
    exact ⟨⟨_, rfl⟩, rfl⟩
  · by_cases h1 : (vs.length : Int) ≤ t
    · obtain ⟨a, c, rfl⟩ : ∃ a c, nv = .slice a vs.length c := by
        rcases h.next.2 with ⟨rfl, h0⟩ | ⟨g, cap, cur, rfl, _⟩
        · exact ⟨none, 0, by rw [h0]⟩
        · exact ⟨_, _, rfl⟩
      clear h
      go_enter Try.func23, Try.ntmps23
      go_wp2
      ((try simp only [Exit.inBlock, Exit.then]); refine bodyPost_ret (results_none rfl _ _ _) rfl ?_)
      exact ⟨⟨_, rfl⟩, rfl⟩
    · have h2 : vs[t.toNat]? = some .nilFunc := by rcases hi with hi | hi | hi <;> first | exact hi | omega
      obtain ⟨k, rfl⟩ : ∃ k : Nat, t = k := ⟨t.toNat, by omega⟩
      simp only [Int.toNat_natCast] at h2
      have hk : k < vs.length := by omega
      rcases hn : h.next.2 with ⟨rfl, h0⟩ | ⟨g, cap, cur, rfl, _⟩
      · omega
      · have hc := h.next.cells (g := g) rfl k _ h2
        rw [addr_add, Nat.zero_add] at hc
        have hq := eql_nil_nil
        clear h hn hi
        go_enter Try.func23, Try.ntmps23
        go_wp2
        ((try simp only [Exit.inBlock, Exit.then]); refine bodyPost_ret (results_none rfl _ _ _) rfl ?_)
        exact ⟨⟨_, rfl⟩, rfl⟩

theorem infoStep : (Try.prog.info? 45).map (fun i => (i.zero, i.size, i.bytes)) = some (some .nilFunc, 1, 8) := by kernel_rfl

end Go.Proofs.Ytfgkickjjeamgaa
