/- Layer 6: the document's Run (bellmanref06): its memory. -/
import Derived.Test.YtfgkickjjeamgaaRefPlain6
import Derived.Test.YtfgkickjjeamgaaDo6
import Derived.Test.YtfgkickjjeamgaaMade
import Derived.Test.YtfgkickjjeamgaaLists
namespace Go.Proofs.Ytfgkickjjeamgaa
open Go.RowKit

theorem remOf_at {T : List (List (Int × Int))} {at_ : List Nat} {t j : Nat} {l : List (Int × Int)} (hT : T[t]? = some l) (hj : at_[t]? = some j) : (remOf T at_)[t]? = some ((deedsOf t l).drop j) := by
  simp [remOf, List.getElem?_mapIdx, hT, List.getD, hj]
theorem remOf_len (T : List (List (Int × Int))) (at_ : List Nat) : (remOf T at_).length = T.length := by simp [remOf]
theorem deeds_drop {t j : Nat} {l : List (Int × Int)} {p : Int × Int} (h : l[j]? = some p) : (deedsOf t l).drop j = ⟨t, j, p.1, p.2⟩ :: (deedsOf t l).drop (j + 1) := by
  obtain ⟨hlt, rfl⟩ := List.getElem?_eq_some_iff.1 h
  rw [List.drop_eq_getElem_cons (by rw [deedsOf_len]; exact hlt)]
  simp [deedsOf]
theorem remOf_set {T : List (List (Int × Int))} {at_ : List Nat} {t j' : Nat} {l : List (Int × Int)} (hT : T[t]? = some l) (hlen : t < at_.length) : remOf T (at_.set t j') = (remOf T at_).set t ((deedsOf t l).drop j') := by
  apply List.ext_getElem?
  intro u
  by_cases e : t = u
  · subst e
    have hlt : t < (remOf T at_).length := by rw [remOf_len]; exact (List.getElem?_eq_some_iff.1 hT).1
    rw [List.getElem?_set_self hlt, remOf_at hT (List.getElem?_set_self hlen)]
  · rw [List.getElem?_set_ne e]
    simp [remOf, List.getElem?_mapIdx, List.getD, List.getElem?_set_ne e]
/-- A thread that isn't finished, called. -/
theorem call_ins {n : Nat} {s : RS ISt} {X : WS} {T : List (List (Int × Int))} {at_ : List Nat} (hs : s.a = (X, remOf T at_)) {t j : Nat} (hn : t < n) {l : List (Int × Int)} {p : Int × Int} (hT : T[t]? = some l) (hj : at_[t]? = some j) (hp : l[j]? = some p) :
    s.call (insM n) t = ⟨((insAct X ⟨t, j, p.1, p.2⟩).1, remOf T (if (insAct X ⟨t, j, p.1, p.2⟩).2 = true then at_.set t (j + 1) else at_)), if (insAct X ⟨t, j, p.1, p.2⟩).2 = true then s.moves ++ [(t : Int)] else s.moves, s.calls + 1⟩ := by
  have hr : s.a.2[t]? = some (⟨t, j, p.1, p.2⟩ :: (deedsOf t l).drop (j + 1)) := by rw [hs, remOf_at hT hj, deeds_drop hp]
  have hi : ¬ s.idle (insM n) t := by
    unfold RS.idle
    simp only [Int.toNat_natCast]
    rw [insM_fin_of hr]
    rintro (h | h | h)
    · omega
    · have : (n : Int) ≤ t := h; omega
    · cases h
  rw [RS.call_go hi, Int.toNat_natCast, insM_go hr, hs]
  have hlen : t < at_.length := (List.getElem?_eq_some_iff.1 hj).1
  cases hb : (insAct X ⟨t, j, p.1, p.2⟩).2
  · simp
  · simp [remOf_set hT hlen]
theorem call_fin {n : Nat} {s : RS ISt} {X : WS} {T : List (List (Int × Int))} {at_ : List Nat} (hs : s.a = (X, remOf T at_)) {t j : Nat} {l : List (Int × Int)} (hT : T[t]? = some l) (hj : at_[t]? = some j) (hp : l.length ≤ j) : (insM n).fin s.a t = true := by
  have hr : s.a.2[t]? = some [] := by rw [hs, remOf_at hT hj, List.drop_of_length_le (by rw [deedsOf_len]; exact hp)]
  simp [chainM, hr]
theorem call_nfin {n : Nat} {s : RS ISt} {X : WS} {T : List (List (Int × Int))} {at_ : List Nat} (hs : s.a = (X, remOf T at_)) {t j : Nat} {l : List (Int × Int)} {p : Int × Int} (hT : T[t]? = some l) (hj : at_[t]? = some j) (hp : l[j]? = some p) : (insM n).fin s.a t = false :=
  insM_fin_of (by rw [hs, remOf_at hT hj, deeds_drop hp])

/-- Its memory. -/
structure RefM (w0 : World) (Bx Ba : Nat) (at_ : List Nat) (mv : Value) (moves : List Int) (X : WS) (dv : Value) (wr : World) : Prop where
  only : Only (· = Bx) w0 wr
  bx : Bx < w0.heap.size
  W : WorldIs wr 0 Bx X dv
  dnew : ∀ g, dv.ownBlock = some g → w0.heap.size ≤ g
  atb : Blk 3 wr Ba (at_.map fun j => numV (j : Nat))
  alo : w0.heap.size ≤ Ba
  mrow : wr.ownsRow w0.heap.size 3 1 mv moves.length (moves.map numV)
  mne : mv.ownBlock ≠ some Ba
theorem RefM.drewN {w0 : World} {Bx Ba : Nat} {at_ : List Nat} {mv : Value} {moves : List Int} {X : WS} {dv : Value} {wr : World} (h : RefM w0 Bx Ba at_ mv moves X dv wr) (n : Nat) : RefM w0 Bx Ba at_ mv moves X dv (wr.drewN n) :=
  ⟨h.only.drewN n, h.bx, h.W.drewN n, h.dnew, h.atb.drewN n, h.alo, own_only h.mrow ((Only.refl (fun _ => False) wr).drewN n) (fun _ _ => id), h.mne⟩
theorem RefM.did {w0 : World} {Bx Ba : Nat} {at_ : List Nat} {mv : Value} {moves : List Int} {X : WS} {dv : Value} {wr w1 : World} {e : Ending} {X' : WS × Bool} (h : RefM w0 Bx Ba at_ mv moves X dv wr) (hd : DoTo 0 Bx X dv wr e w1 X') : ∃ dv', RefM w0 Bx Ba at_ mv moves X'.1 dv' w1 := by
  obtain ⟨dv', hW', hg⟩ := hd.ex
  have ho := hd.only
  have hbx := h.bx
  have hs := h.only.size
  refine ⟨dv', ⟨h.only.step ho fun i hi e => ?_, h.bx, hW', fun g hgg => ?_, h.atb.only ho ?_, h.alo, own_only h.mrow ho ?_, h.mne⟩⟩
  · rcases e with e | e
    · exact e
    · have := h.dnew i e; omega
  · rcases hg with e | e
    · exact h.dnew g (e ▸ hgg)
    · have := e g hgg; omega
  · rintro (e | e)
    · have := h.alo; omega
    · exact blk_apart h.atb h.W.done e (by decide) rfl
  · rintro k hk (e | e)
    · have := (h.mrow.lt k hk).1; omega
    · exact rows_apart6 h.mrow h.W.done hk e (by decide) rfl
/-- A move, taken down. -/
theorem RefM.push {w0 : World} {Bx Ba : Nat} {at_ : List Nat} {mv : Value} {moves : List Int} {X : WS} {dv : Value} {wr w4 : World} {o : Obj} {g' cap' : Nat} {t : Int} (h : RefM w0 Bx Ba at_ mv moves X dv wr)
    (hown : w4.ownsRow w0.heap.size 3 1 (.slice (some ⟨g', 0, none⟩) (moves.length + 1) cap') (moves.length + 1) (moves.map numV ++ [numV t])) (hgrow : (wr.alloc o).grownBy w4 mv.ownBlock) (hlie : mv.ownBlock = some g' ∨ g' = wr.heap.size + 1) :
    RefM w0 Bx Ba at_ (.slice (some ⟨g', 0, none⟩) (moves.length + 1) cap') (moves ++ [t]) X dv w4 := by
  have hog := grown_only hgrow
  have hall : Only (fun k => mv.ownBlock = some k) wr w4 := ((Only.refl _ wr).alloc o).trans hog
  have hbx := h.bx
  have hs := h.only.size
  refine ⟨h.only.step hall fun i hi e => ?_, h.bx, h.W.only hall ?_ ?_, h.dnew, h.atb.only hall ?_, h.alo, by simpa using hown, ?_⟩
  · have := (h.mrow.lt i e).1; omega
  · intro e; have := (h.mrow.lt _ e).1; omega
  · intro k hk e; exact rows_apart6 h.mrow h.W.done e hk (by decide) rfl
  · exact h.mne
  · intro e
    have e' : g' = Ba := by simpa [Value.ownBlock] using e
    rcases hlie with e1 | e1
    · exact h.mne (e' ▸ e1)
    · have := h.atb.lt; omega
theorem RefM.inc {w0 : World} {Bx Ba : Nat} {at_ : List Nat} {mv : Value} {moves : List Int} {X : WS} {dv : Value} {wr : World} (h : RefM w0 Bx Ba at_ mv moves X dv wr) (t j : Nat) : RefM w0 Bx Ba (at_.set t (j + 1)) mv moves X dv (wr.setCell ⟨Ba, t, none⟩ (.int .i64 ((j : Int) + 1))) := by
  have ho : Only (· = Ba) wr (wr.setCell ⟨Ba, t, none⟩ (.int .i64 ((j : Int) + 1))) := (Only.refl (· = Ba) wr).setCell (p := ⟨Ba, t, none⟩) (.inl rfl) _
  have hbx := h.bx
  have hal := h.alo
  refine ⟨h.only.step ho fun i hi e => by omega, h.bx, h.W.only ho (by omega) ?_, h.dnew, ?_, h.alo, own_only h.mrow ho ?_, h.mne⟩
  · intro k hk e; subst e; exact blk_apart h.atb h.W.done hk (by decide) rfl
  · have := h.atb.set t (.int .i64 ((j : Int) + 1))
    rw [List.map_set]
    exact this
  · intro k hk e; subst e; exact h.mne hk

end Go.Proofs.Ytfgkickjjeamgaa
