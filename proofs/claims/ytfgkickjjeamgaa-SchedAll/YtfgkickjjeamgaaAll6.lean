/- Layer 6 (package sched): all of a run. -/
import Derived.Test.YtfgkickjjeamgaaBegin6
namespace Go.Proofs.Ytfgkickjjeamgaa
open Go.RowKit

/-- What a run tells and leaves. -/
structure RunTo {A : Type} (m : Mach A) (K : Nat → Prop) (inv : (Nat → Prop) → A → List Value → World → Prop) (F : RS A) (w : World) (e : Ending) (w' : World) : Prop where
  ex : ∃ M mv vs, e = .returned (.agg #[mv, numV F.calls, numV (F.err m)]) ∧ NumsIn w' mv F.moves ∧ (∀ k, mv.ownBlock = some k → M k ∧ w.heap.size ≤ k) ∧ inv M F.a vs w'
  only : Only (fun k => ¬ K k) w w'

theorem turns_only {w w2 w' : World} {base : Nat} {K : Nat → Prop} (h : Below w.heap.size w w2) (ht : Turns base (fun k => False ∨ k = w.heap.size) K w2 w') (hb : w.heap.size ≤ base) : Only (fun k => ¬ K k) w w' :=
  (Only.of_below h _).step ht fun i hi hs => by
    rcases hs with hs | hs
    · exact hs.2
    · omega

/-- The answer, written. -/
theorem run_end {A : Type} {m : Mach A} {K : Nat → Prop} {inv : (Nat → Prop) → A → List Value → World → Prop} (S : Sys m K inv) {M : Nat → Prop} {F : RS A} {w w4 : World} {vs : List Value} {mv : Value} {base : Nat} (hb : w.heap.size < base)
    (hm : w4.ownsRow base 3 1 mv F.moves.length (F.moves.map numV)) (mm : ∀ k, mv.ownBlock = some k → M k) (hM : ∀ k, (False ∨ k = w.heap.size) → M k) (hinv : inv M F.a vs w4) (hR : Blk 33 w4 w.heap.size [.slice none 0 0, numV 0, numV 0])
    (hO : Only (fun k => ¬ K k) w w4) :
    Blk 33 (((w4.setCell ⟨w.heap.size, 0, none⟩ mv).setCell ⟨w.heap.size, 1, none⟩ (numV F.calls)).setCell ⟨w.heap.size, 2, none⟩ (numV (F.err m))) w.heap.size [mv, numV F.calls, numV (F.err m)] ∧
    RunTo m K inv F w (.returned (.agg #[mv, numV F.calls, numV (F.err m)])) (((w4.setCell ⟨w.heap.size, 0, none⟩ mv).setCell ⟨w.heap.size, 1, none⟩ (numV F.calls)).setCell ⟨w.heap.size, 2, none⟩ (numV (F.err m))) := by
  refine ⟨((hR.set 0 mv).set 1 (numV F.calls)).set 2 (numV (F.err m)), ?_⟩
  have ho : Only (· = w.heap.size) w4 (((w4.setCell ⟨w.heap.size, 0, none⟩ mv).setCell ⟨w.heap.size, 1, none⟩ (numV F.calls)).setCell ⟨w.heap.size, 2, none⟩ (numV (F.err m))) :=
    (((Only.refl (· = w.heap.size) w4).setCell (p := ⟨w.heap.size, 0, none⟩) (.inl rfl) _).setCell (p := ⟨w.heap.size, 1, none⟩) (.inl rfl) _).setCell (p := ⟨w.heap.size, 2, none⟩) (.inl rfl) _
  refine ⟨⟨M, mv, vs, rfl, SliceK.of_own (own_only hm ho (fun k hk e => by have := (hm.lt k hk).1; omega)), fun k hk => ⟨mm k hk, by have := (hm.lt k hk).1; omega⟩, S.still hinv (ho.mono fun k _ e => hM k (.inr e))⟩, ?_⟩
  exact hO.step ho fun i hi e => by omega

theorem sched_Run {A : Type} {m : Mach A} {K : Nat → Prop} {inv : (Nat → Prop) → A → List Value → World → Prop} (S : Sys m K inv) {a : A} {vs : List Value} {w : World} (hv : inv (fun _ => False) a vs w) {tv : Value} (ht : SliceK w 1 tv m.n vs) (hmn : m.n ≤ 1000)
    {pa : Option Addr} {pc : Nat} {L : List Int} (hp : ∀ w', Only (fun k => ¬ K k) w w' → ListIn numV w' pa L) (hL : L.length ≤ 1000000) :
    Calls Try.prog 8 #[.slice pa L.length pc, tv] w (RunTo m K inv (RS.run m a L) w) := by
  have hv' : inv (fun k => False ∨ k = w.heap.size) a vs (w.alloc (.cells #[.slice none 0 0, numV 0, numV 0] 33)) := S.more hv (Nat.le_refl _) (by simp) ((Only.refl _ _).alloc _)
  have hb1 : Below w.heap.size w (w.alloc (.cells #[.slice none 0 0, numV 0, numV 0] 33)) := (Below.refl w.heap.size w).alloc (Nat.le_refl _) _
  have ht' : SliceK (w.alloc (.cells #[.slice none 0 0, numV 0, numV 0] 33)) 1 tv m.n vs := ht.below hb1
  have hr : Blk 33 (w.alloc (.cells #[.slice none 0 0, numV 0, numV 0] 33)) w.heap.size [.slice none 0 0, numV 0, numV 0] := Blk.new (l := [.slice none 0 0, numV 0, numV 0])
  have hsz : (w.alloc (.cells #[.slice none 0 0, numV 0, numV 0] 33)).heap.size = w.heap.size + 1 := by simp
  have H := Lib.hid (And.intro hv' (And.intro hb1 (And.intro ht' (And.intro hr (And.intro hsz hp)))))
  clear hv hv' hb1 ht ht' hr hsz hp
  go_enter Try.func8, Try.ntmps8
  go_wp2_with fail
  generalize w.alloc (.cells #[.slice none 0 0, numV 0, numV 0] 33) = w1 at *
  refine (sched_begin S H.out.1 H.out.2.2.1 hmn).mono ?_
  rintro e w2 ⟨Bm, nv, rfl, hS2, hB2⟩
  have hB : Below w.heap.size w w2 := H.out.2.1.trans (hB2.mono H.out.2.1.size)
  have hR2 := H.out.2.2.2.1.below hB2 (by rw [H.out.2.2.2.2.1]; omega)
  have hbase : w.heap.size < w1.heap.size := by rw [H.out.2.2.2.2.1]; omega
  have K2 := Lib.hid (And.intro hS2 (And.intro hB (And.intro hR2 hbase)))
  have HP := Lib.hid H.out.2.2.2.2.2
  clear hS2 hB2 hB hR2 hbase H
  go_wp2_with fail
  refine (stand_pick S K2.out.1 (pa := pa) (pc := pc) (L := L) (fun w' ht => HP.out w' (turns_only K2.out.2.1 ht (Nat.le_of_lt K2.out.2.2.2))) (Nat.zero_le _) (by show 0 + L.length ≤ _; omega) (by omega)).mono ?_
  rintro e w3 ⟨⟨x3, rfl⟩, hS3, hT3⟩
  have K3 := Lib.hid (And.intro hS3 hT3)
  clear hS3 hT3
  have hpc := (RS.picks_calls (m := m) L ⟨a, [], 0⟩).2
  have hpm := RS.picks_most (m := m) L ⟨a, [], 0⟩ (Nat.zero_le _)
  simp only [Nat.zero_add] at hpc
  go_wp2_with fail
  refine (stand_goRound S K3.out.1 hpm (by omega) hmn).mono ?_
  rintro e w4 ⟨⟨x4, rfl⟩, hS4, hT4⟩
  have hT : Turns w1.heap.size (fun k => False ∨ k = w.heap.size) K w2 w4 := K3.out.2.trans hT4
  have hR4 := K2.out.2.2.1.only hT (fun h => by
    rcases h with h | h
    · exact h.1 (.inr rfl)
    · have := K2.out.2.2.2; omega)
  have hO4 := turns_only K2.out.2.1 hT (Nat.le_of_lt K2.out.2.2.2)
  change Stand m inv w1.heap.size (fun k => False ∨ k = w.heap.size) Bm nv (RS.run m a L) w4 at hS4
  clear hpc hpm
  generalize RS.run m a L = F at *
  obtain ⟨hlow, M, mv, vs', hM, hI, hinv⟩ := hS4
  have c1 := hI.blk.at (o := 1) rfl
  have c2 := hI.blk.at (o := 2) rfl
  have c3 := hI.blk.at (o := 3) rfl
  have c4 := hI.blk.at (o := 4) rfl
  have f4 := hI.blk.frozen 4
  have r0 := hR4.at (o := 0) rfl
  have r1 := hR4.at (o := 1) rfl
  have r2 := hR4.at (o := 2) rfl
  have g0 := hR4.frozen 0
  have g1 := hR4.frozen 1
  have g2 := hR4.frozen 2
  obtain ⟨ma, mc, rfl⟩ : ∃ ma mc, mv = .slice ma F.moves.length mc := by
    rcases hI.moves.2 with ⟨rfl, h0⟩ | ⟨g, cap, cur, rfl, _⟩
    · exact ⟨none, 0, by rw [h0]⟩
    · exact ⟨_, _, rfl⟩
  have hne : w.heap.size ≠ Bm := by have := K2.out.2.2.2; have := hI.bb; omega
  have KK := Lib.hid (And.intro hI (And.intro hinv (And.intro hM (And.intro hR4 hO4))))
  clear hI hinv hM hR4 hO4 hT hT4 K3 HP
  by_cases hz : leftN m F.a = 0
  · have hz1 : ((leftN m F.a : Nat) : Int) = 0 := by omega
    rw [hz] at c1
    go_wp2
    have E := run_end S K2.out.2.2.2 KK.out.1.moves KK.out.1.mm KK.out.2.2.1 KK.out.2.1 KK.out.2.2.2.1 KK.out.2.2.2.2
    rw [show F.err m = 0 by unfold RS.err; rw [if_pos hz]] at E
    have x0 := E.1.at (o := 0) rfl
    have x1 := E.1.at (o := 1) rfl
    have x2 := E.1.at (o := 2) rfl
    refine bodyPost_ret (v := .agg #[.slice ma F.moves.length mc, numV F.calls, numV 0]) ?_ rfl E.2
    simp [results, Try.results8, go_sem, x0, x1, x2]
  · have hz0 : 0 < leftN m F.a := by omega
    go_wp2
    have ho : Only (· = Bm) w4 (w4.setCell ⟨Bm, 4, none⟩ (.int .i64 12)) := (Only.refl (· = Bm) w4).setCell (p := ⟨Bm, 4, none⟩) (.inl rfl) _
    have hbb := KK.out.1.bb
    have hbs := K2.out.2.2.2
    have E := run_end S K2.out.2.2.2 (own_only KK.out.1.moves ho (fun k hk e => by subst e; exact blk_apart KK.out.1.blk KK.out.1.moves hk (by decide) rfl)) KK.out.1.mm KK.out.2.2.1 (S.still KK.out.2.1 (ho.mono fun k _ e => by subst e; exact KK.out.1.mb)) (KK.out.2.2.2.1.only ho hne) (KK.out.2.2.2.2.step ho fun i hi e => by omega)
    rw [show F.err m = 12 by unfold RS.err; rw [if_neg hz]] at E
    have x0 := E.1.at (o := 0) rfl
    have x1 := E.1.at (o := 1) rfl
    have x2 := E.1.at (o := 2) rfl
    refine bodyPost_ret (v := .agg #[.slice ma F.moves.length mc, numV F.calls, numV 12]) ?_ rfl E.2
    simp [results, Try.results8, go_sem, x0, x1, x2]

end Go.Proofs.Ytfgkickjjeamgaa
