/- Layer 7: the document's example (awake). -/
import Derived.Test.YtjkabbabhfipbaaBegin7
import Derived.Test.YtjkabbabhfipbaaEndYes7
import Derived.Test.YtjkabbabhfipbaaCalls7
import Derived.Test.YtjkabbabhfipbaaTurnW7
namespace Go.Proofs.Ytjkabbabhfipbaa
open Go.RowKit

def aw1 : CallZ := ⟨0, 0, default, default, 1, 0⟩
def aw2 : CallZ := ⟨1, 0, default, default, 2, 0⟩
def aw3 : CallZ := ⟨1, 0, default, default, 2, 3⟩
def aw4 : CallZ := ⟨0, 0, default, default, 1, 4⟩
theorem aw_wf : WfCalls [aw4, aw3] := by
  intro c hc
  simp at hc
  rcases hc with rfl | rfl <;> exact ⟨by decide, by decide, by decide, by decide⟩
theorem Only.low {S : Nat → Prop} {w a b : World} (h : Below w.heap.size w a) (k : Only S a b) (hS : ∀ i, S i → w.heap.size ≤ i) : Below w.heap.size w b := k.below_step h.size h (fun i hi hs => by have := hS i hs; omega)
theorem logBlk_low {n base Bl : Nat} {w : World} {L : List CallZ} {now : Nat} {cv mv cv0 mv0 : Value} (hl : LogIs w base Bl L now cv mv) (hb : n ≤ base) (hB : n ≤ Bl) (hm : ∀ b, mv = .map (some b) → n ≤ b) (e : cv = cv0) (e' : mv = mv0) : ∀ i, LogBlk Bl cv0 mv0 i → n ≤ i := by
  subst e; subst e'
  rintro i (rfl | h | h)
  · exact hB
  · exact Nat.le_trans hb (hl.row.lt i h).1
  · exact hm i h
set_option maxHeartbeats 2000000 in
theorem law_awake (w : World) : Calls Try.prog 6 #[] w fun e w' => e = .returned (.bool true) ∧ Below w.heap.size w w' := by
  go_enter Try.func6, Try.ntmps6
  go_wp2_with fail
  refine (hist_New w).mono ?_
  rintro e w1 ⟨rfl, rfl⟩
  have h1 := Lib.hid (LogIs.new w w.heap.size)
  have b1 := Lib.hid ((Below.refl w.heap.size w).alloc (Nat.le_refl _) (.cells #[.slice none 0 0, .map none, .int .i64 0] 59))
  generalize w.alloc (.cells #[.slice none 0 0, .map none, .int .i64 0] 59) = w1 at h1 b1 ⊢
  go_wp2_with fail
  refine (log_Begin (o := default) h1.out b1.out.size (by decide) (by decide) 0 (by decide)).mono ?_
  intro e w2 hp
  obtain rfl : e = .returned (.int .i64 1) := hp.told
  obtain ⟨cv2, mv2, h2, n2⟩ := hp.ex
  have h2 : LogIs w2 w.heap.size w.heap.size [aw1] 1 cv2 mv2 := h2
  have b2 : Below w.heap.size w w2 := Only.low b1.out hp.only (logBlk_low h1.out (Nat.le_refl _) (Nat.le_refl _) (fun _ h => by cases h) rfl rfl)
  have m2 : ∀ b, mv2 = .map (some b) → w.heap.size ≤ b := fun b e => by
    rcases n2.2 with h | ⟨b', h, hl⟩
    · rw [h] at e; cases e
    · rw [h] at e; cases e; exact Nat.le_trans b1.out.size hl
  have D2 := Lib.hid (And.intro h2 (And.intro b2 m2))
  clear h1 b1 hp h2 b2 m2 n2
  go_wp2_with fail
  refine (log_Begin (o := default) D2.out.1 D2.out.2.1.size (by decide) (by decide) 1 (by decide)).mono ?_
  intro e w3 hp
  obtain rfl : e = .returned (.int .i64 2) := hp.told
  obtain ⟨cv3, mv3, h3, n3⟩ := hp.ex
  have h3 : LogIs w3 w.heap.size w.heap.size [aw1, aw2] 2 cv3 mv3 := h3
  have b3 : Below w.heap.size w w3 := Only.low D2.out.2.1 hp.only (logBlk_low D2.out.1 (Nat.le_refl _) (Nat.le_refl _) D2.out.2.2 rfl rfl)
  have m3 : ∀ b, mv3 = .map (some b) → w.heap.size ≤ b := fun b e => by
    rcases n3.2 with h | ⟨b', h, hl⟩
    · rw [h] at e; exact D2.out.2.2 b e
    · rw [h] at e; cases e; exact Nat.le_trans D2.out.2.1.size hl
  have D3 := Lib.hid (And.intro h3 (And.intro b3 m3))
  clear D2 hp h3 b3 m3 n3
  go_wp2_with fail
  refine (log_End_yes (a := default) (c := aw2) D3.out.1 1 rfl rfl (by decide) (by decide)).mono ?_
  intro e w4 hp
  obtain rfl := hp.told
  have h4 : LogIs w4 w.heap.size w.heap.size [aw1, aw3] 3 cv3 mv3 := hp.log
  have b4 : Below w.heap.size w w4 := Only.low D3.out.2.1 hp.only (logBlk_low D3.out.1 (Nat.le_refl _) (Nat.le_refl _) D3.out.2.2 rfl rfl)
  have D4 := Lib.hid (And.intro h4 (And.intro b4 D3.out.2.2))
  clear D3 hp h4 b4
  go_wp2_with fail
  refine (log_End_yes (a := default) (c := aw1) D4.out.1 0 rfl rfl (by decide) (by decide)).mono ?_
  intro e w5 hp
  obtain rfl := hp.told
  have h5 : LogIs w5 w.heap.size w.heap.size [aw4, aw3] 4 cv3 mv3 := hp.log
  have b5 : Below w.heap.size w w5 := Only.low D4.out.2.1 hp.only (logBlk_low D4.out.1 (Nat.le_refl _) (Nat.le_refl _) D4.out.2.2 rfl rfl)
  have D5 := Lib.hid (And.intro h5 b5)
  clear D4 hp h5 b5
  go_wp2_with fail
  refine (log_Calls D5.out.1 (by decide)).mono ?_
  rintro e w6 ⟨r, rfl, hr, hb6⟩
  rw [show (!anyOpen [aw4, aw3]) = true from rfl]
  obtain ⟨g, cap, rfl⟩ : ∃ g cap, r = .slice (some ⟨g, 0, none⟩) 2 cap := by
    obtain ⟨_, ⟨_, e⟩ | ⟨g, cap, cur, e, _⟩⟩ := hr
    · cases e
    · exact ⟨g, cap, e⟩
  have R0 := (call_there (i := 0) (c := aw4) hr rfl rfl rfl).1
  have R1 := (call_there (i := 1) (c := aw3) hr rfl rfl rfl).1
  have k0 : w6.cell? ⟨g, 13, none⟩ = some (.int .i64 1) := R0 13 _ rfl
  have k1 : w6.cell? ⟨g, 14, none⟩ = some (.int .i64 4) := R0 14 _ rfl
  have k2 : w6.cell? ⟨g, 28, none⟩ = some (.int .i64 2) := R1 13 _ rfl
  have k3 : w6.cell? ⟨g, 29, none⟩ = some (.int .i64 3) := R1 14 _ rfl
  have D6 := Lib.hid (And.intro (CallsIn.own hr rfl) (below_step D5.out.2 hb6))
  clear R0 R1 hr hb6 D5
  go_wp2_with fail
  refine (hist_Right D6.out.1 aw_wf (by decide)).mono ?_
  rw [show rightH [aw4, aw3] = true from by decide]
  rintro e w7 ⟨rfl, hb7⟩
  go_wp2
  go_ret
  exact ⟨rfl, below_step D6.out.2 hb7⟩

end Go.Proofs.Ytjkabbabhfipbaa
