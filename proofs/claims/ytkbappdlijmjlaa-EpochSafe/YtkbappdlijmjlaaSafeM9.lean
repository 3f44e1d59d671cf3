/- EpochSafe: what it keeps in memory; its function tell. -/
import Derived.Test.YtkbappdlijmjlaaSafePlain9
import Derived.Test.YtkbappdlijmjlaaRefEpC9
import Derived.Test.YtkbappdlijmjlaaRecs
import Derived.Deep.LoopGhost
namespace Go.Proofs.Ytkbappdlijmjlaa
open Go.RowKit

abbrev row8 (h : List Bool) : List Value := h.map Value.bool
theorem blk_ne {t t' : TypeId} {w : World} {B B' : Nat} {l l' : List Value} (h : Blk t w B l) (h' : Blk t' w B' l') (hne : t ≠ t') : B ≠ B' := by
  rintro rfl
  have h1 : w.heap[B]? = _ := h
  rw [show w.heap[B]? = _ from h'] at h1
  injection h1 with h1
  injection h1 with _ h1
  exact hne h1.symm
theorem own_ne {w : World} {e e' : TypeId} {base base' n n' size size' : Nat} {v v' : Value} {xs xs' : List Value} (h : w.ownsRow base e size v n xs) (h' : w.ownsRow base' e' size' v' n' xs') (hne : e ≠ e') {g : Nat} (hg : v.ownBlock = some g) (hg' : v'.ownBlock = some g) : False := by
  obtain ⟨l, _, _, _, hb, _⟩ := own_heap h hg
  exact blk_apart hb h' hg' hne rfl
/-- Who, told: boxes; the rows that they lead to. -/
structure WhoIs (w : World) (N Gw Gt Rt : Nat) (wv : Value) (H : List (List Bool)) (T : List Bool) : Prop where
  wb : Blk 40 w Gw [wv]
  wr : w.ownsRow N 42 8 wv H.length (H.flatMap row8)
  h8 : ∀ h ∈ H, h.length = 8
  tb : Blk 41 w Gt [.slice (some ⟨Rt, 0, none⟩) 300 300]
  tr : Blk 4 w Rt (T.map Value.bool)
  tl : T.length = 300
  lows : N ≤ Gw ∧ N ≤ Gt ∧ N ≤ Rt
def WhoBlk (Gw Gt Rt : Nat) (wv : Value) (k : Nat) : Prop := k = Gw ∨ k = Gt ∨ k = Rt ∨ wv.ownBlock = some k
section
variable {w w' : World} {N B P Gw Gt Rt : Nat} {v : Nat → Value} {x : Ep} {wv : Value} {H : List (List Bool)} {T : List Bool}
theorem WhoIs.lt (h : WhoIs w N Gw Gt Rt wv H T) {k : Nat} (hk : WhoBlk Gw Gt Rt wv k) : k < w.heap.size := by
  rcases hk with rfl | rfl | rfl | hk
  · exact h.wb.lt
  · exact h.tb.lt
  · exact h.tr.lt
  · exact (h.wr.lt k hk).2
theorem WhoIs.low (h : WhoIs w N Gw Gt Rt wv H T) {k : Nat} (hk : WhoBlk Gw Gt Rt wv k) : N ≤ k := by
  rcases hk with rfl | rfl | rfl | hk
  · exact h.lows.1
  · exact h.lows.2.1
  · exact h.lows.2.2
  · exact own_base3 h.wr k hk
theorem WhoIs.only {S : Nat → Prop} (h : WhoIs w N Gw Gt Rt wv H T) (ho : Only S w w') (hS : ∀ k, WhoBlk Gw Gt Rt wv k → ¬ S k) : WhoIs w' N Gw Gt Rt wv H T :=
  ⟨h.wb.only ho (hS _ (.inl rfl)), own_only h.wr ho (fun k hk => hS k (.inr (.inr (.inr hk)))), h.h8, h.tb.only ho (hS _ (.inr (.inl rfl))), h.tr.only ho (hS _ (.inr (.inr (.inl rfl)))), h.tl, h.lows⟩
theorem WhoIs.below (h : WhoIs w N Gw Gt Rt wv H T) (hb : Below w.heap.size w w') : WhoIs w' N Gw Gt Rt wv H T := h.only (Only.of_below hb (fun _ => False)) (fun _ _ h => h)
/-- The epochs lie in other blocks. -/
theorem WhoIs.apart (h : WhoIs w N Gw Gt Rt wv H T) (he : EpIs w N B P v x) {k : Nat} (hk : WhoBlk Gw Gt Rt wv k) (hk' : EpBlk B P v k) : False := by
  rcases hk' with rfl | rfl | ⟨j, hj, e⟩
  · rcases hk with e | e | e | e
    · exact blk_ne he.blk h.wb (by decide) e
    · exact blk_ne he.blk h.tb (by decide) e
    · exact blk_ne he.blk h.tr (by decide) e
    · exact blk_apart he.blk h.wr e (by decide) rfl
  · rcases hk with e | e | e | e
    · exact blk_ne he.row h.wb (by decide) e
    · exact blk_ne he.row h.tb (by decide) e
    · exact blk_ne he.row h.tr (by decide) e
    · exact blk_apart he.row h.wr e (by decide) rfl
  · have ho := he.own.own j hj
    rcases hk with rfl | rfl | rfl | e'
    · exact blk_apart h.wb ho e (by decide) rfl
    · exact blk_apart h.tb ho e (by decide) rfl
    · exact blk_apart h.tr ho e (by decide) rfl
    · exact own_ne ho h.wr (by decide) e e'
theorem row8_len {H : List (List Bool)} (h8 : ∀ h ∈ H, h.length = 8) : (H.flatMap row8).length = H.length * 8 := by
  induction H with
  | nil => rfl
  | cons h H ih =>
    rw [List.flatMap_cons, List.length_append, ih (fun g hg => h8 g (by simp [hg])), List.length_map, h8 h (by simp), List.length_cons]
    omega
theorem row8_at {H : List (List Bool)} (h8 : ∀ h ∈ H, h.length = 8) {k t : Nat} {h : List Bool} {b : Bool} (hk : H[k]? = some h) (ht : h[t]? = some b) : (H.flatMap row8)[k * 8 + t]? = some (.bool b) := by
  induction H generalizing k with
  | nil => simp at hk
  | cons g H ih =>
    rw [List.flatMap_cons]
    have hg := h8 g (by simp)
    cases k with
    | zero =>
      simp at hk
      subst hk
      have := (List.getElem?_eq_some_iff.1 ht).1
      rw [Nat.zero_mul, Nat.zero_add, List.getElem?_append_left (by simp; omega), List.getElem?_map, ht]
      rfl
    | succ k =>
      simp at hk
      rw [List.getElem?_append_right (by simp; omega), List.length_map, hg, show (k + 1) * 8 + t - 8 = k * 8 + t by omega]
      exact ih (fun f hf => h8 f (by simp [hf])) hk
/-- A cell of who. -/
theorem WhoIs.cell (h : WhoIs w N Gw Gt Rt wv H T) {k t : Nat} {g : List Bool} {b : Bool} (hk : H[k]? = some g) (ht : g[t]? = some b) : ∃ Rw cap, wv = .slice (some ⟨Rw, 0, none⟩) H.length cap ∧ w.cell? ⟨Rw, k * 8 + t, none⟩ = some (.bool b) ∧ w.frozen? ⟨Rw, k * 8 + t, none⟩ = false := by
  have hl := (List.getElem?_eq_some_iff.1 hk).1
  obtain ⟨Rw, hR⟩ : ∃ Rw, wv.ownBlock = some Rw := by
    rcases h.wr.2 with ⟨_, e⟩ | ⟨g, cap, cur, e, _⟩
    · omega
    · exact ⟨g, by rw [e]; rfl⟩
  obtain ⟨l, cap, e, _, hb, ht', _⟩ := own_heap h.wr hR
  refine ⟨Rw, cap, e, hb.at ?_, hb.frozen _⟩
  have h1 := row8_at h.h8 hk ht
  rw [← ht', List.getElem?_take] at h1
  split at h1
  · exact h1
  · cases h1
theorem WhoIs.told (h : WhoIs w N Gw Gt Rt wv H T) {k : Nat} {b : Bool} (hk : T[k]? = some b) : w.cell? ⟨Rt, k, none⟩ = some (.bool b) := h.tr.at (by rw [List.getElem?_map, hk]; rfl)
/-- One is told. -/
theorem WhoIs.tell (h : WhoIs w N Gw Gt Rt wv H T) (k : Nat) : WhoIs (w.setCell ⟨Rt, k, none⟩ (.bool true)) N Gw Gt Rt wv H (T.set k true) ∧ Only (· = Rt) w (w.setCell ⟨Rt, k, none⟩ (.bool true)) := by
  have ho := only_at w Rt k (.bool true)
  refine ⟨⟨h.wb.only ho (blk_ne h.wb h.tr (by decide)), own_only h.wr ho (fun g hg e => blk_apart h.tr h.wr hg (by decide) e.symm), h.h8, h.tb.only ho (blk_ne h.tb h.tr (by decide)), ?_, by simpa using h.tl, h.lows⟩, ho⟩
  rw [List.map_set]
  exact h.tr.set k _
/-- Of one of them one more thing is said. -/
theorem WhoIs.turn (h : WhoIs w N Gw Gt Rt wv H T) {k t Rw : Nat} {g : List Bool} (hk : H[k]? = some g) (ht : t < 8) (hR : wv.ownBlock = some Rw) (b : Bool) : WhoIs (w.setCell ⟨Rw, k * 8 + t, none⟩ (.bool b)) N Gw Gt Rt wv (H.set k (g.set t b)) T ∧ Only (· = Rw) w (w.setCell ⟨Rw, k * 8 + t, none⟩ (.bool b)) := by
  have ho := only_at w Rw (k * 8 + t) (.bool b)
  have hg := h.h8 g (List.mem_of_getElem? hk)
  refine ⟨⟨h.wb.only ho (blk_apart h.wb h.wr hR (by decide)), ?_, fun f hf => ?_, h.tb.only ho (blk_apart h.tb h.wr hR (by decide)), h.tr.only ho (blk_apart h.tr h.wr hR (by decide)), h.tl, h.lows⟩, ho⟩
  · have h1 := own_set (k := k * 8 + t) h.wr hR (.bool b)
    have e : (H.flatMap row8).set (k * 8 + t) (.bool b) = (H.set k (g.set t b)).flatMap row8 := by
      have h8 := h.h8
      clear h1 ho h
      induction H generalizing k with
      | nil => simp at hk
      | cons f H ih =>
        have hf := h8 f (by simp)
        cases k with
        | zero =>
          simp at hk
          subst hk
          rw [List.flatMap_cons, List.set_cons_zero, List.flatMap_cons, Nat.zero_mul, Nat.zero_add, List.set_append_left _ _ (by simp; omega)]
          show (f.map Value.bool).set t (.bool b) ++ _ = (f.set t b).map Value.bool ++ _
          rw [List.map_set]
        | succ k =>
          simp at hk
          rw [List.flatMap_cons, List.set_cons_succ, List.flatMap_cons, List.set_append_right _ _ (by simp; omega), List.length_map, hf, show (k + 1) * 8 + t - 8 = k * 8 + t by omega, ih hk (fun f' hf' => h8 f' (by simp [hf']))]
    rw [e] at h1
    rw [List.length_set]
    exact h1
  · rcases List.mem_or_eq_of_mem_set hf with hf | rfl
    · exact h.h8 f hf
    · simpa using hg
end

end Go.Proofs.Ytkbappdlijmjlaa
