/- Layer 7: HistWell's walk. -/
import Derived.Test.YtjkabbabhfipbaaWellPlain7
import Derived.Test.YtjkabbabhfipbaaAwake7
import Derived.Test.YtjkabbabhfipbaaRefRight7
import Derived.Test.YtjkabbabhfipbaaEndNo7
import Derived.Test.YtjkabbabhfipbaaLists
namespace Go.Proofs.Ytjkabbabhfipbaa
open Go.RowKit

def arrV (O : Nat → Int) : List Value := [numV (O 0), numV (O 1), numV (O 2), numV (O 3)]
def updO (O : Nat → Int) (t : Nat) (v : Int) : Nat → Int := fun s => if s = t then v else O s
theorem arr_at (O : Nat → Int) {t : Nat} (ht : t < 4) : (arrV O)[t]? = some (numV (O t)) := by
  match t, ht with
  | 0, _ => rfl
  | 1, _ => rfl
  | 2, _ => rfl
  | 3, _ => rfl
theorem arr_set (O : Nat → Int) {t : Nat} (ht : t < 4) (v : Int) : (arrV O).set t (numV v) = arrV (updO O t v) := by
  match t, ht with
  | 0, _ => rfl
  | 1, _ => rfl
  | 2, _ => rfl
  | 3, _ => rfl
/-- The log and the list of what is open: threads below s have ended all. -/
structure WStand (w wr : World) (Bl Bo s : Nat) (L : List CallZ) (now : Nat) (O : Nat → Int) (cv mv : Value) : Prop where
  log : LogIs wr w.heap.size Bl L now cv mv
  arr : Blk 55 wr Bo (arrV O)
  far : ¬ LogBlk Bl cv mv Bo
  high : ∀ k, LogBlk Bl cv mv k → w.heap.size ≤ k
  bo : w.heap.size ≤ Bo
  low : Below w.heap.size w wr
  wi : WI L now
  done : ∀ t : Nat, t < s → ∀ c ∈ L, c.th = (t : Int) → c.to ≠ 0
  op : ∀ t : Nat, s ≤ t → t < 4 → OpenT L (t : Int) (O t)
theorem WStand.start {w wA : World} (h : Below w.heap.size w wA) : WStand w ((wA.alloc (.cells #[.slice none 0 0, .map none, .int .i64 0] 59)).alloc (.cells #[.int .i64 0, .int .i64 0, .int .i64 0, .int .i64 0] 55)) wA.heap.size (wA.heap.size + 1) 0 [] 0 (fun _ => 0) (.slice none 0 0) (.map none) := by
  have hs := h.size
  have o1 : Only (fun _ => False) (wA.alloc (.cells #[.slice none 0 0, .map none, .int .i64 0] 59)) ((wA.alloc (.cells #[.slice none 0 0, .map none, .int .i64 0] 59)).alloc (.cells #[.int .i64 0, .int .i64 0, .int .i64 0, .int .i64 0] 55)) := (Only.refl _ _).alloc _
  have e := Blk.new (W := wA.alloc (.cells #[.slice none 0 0, .map none, .int .i64 0] 59)) (t := 55) (l := [.int .i64 0, .int .i64 0, .int .i64 0, .int .i64 0])
  rw [show (wA.alloc (.cells #[.slice none 0 0, .map none, .int .i64 0] 59)).heap.size = wA.heap.size + 1 by simp] at e
  refine ⟨(LogIs.new wA w.heap.size).only o1 (fun _ _ => id), e, ?_, ?_, by omega, (h.alloc hs _).alloc (by simp; omega) _, WI.start, fun t ht => by omega, fun t _ _ => .inl ⟨rfl, fun c hc => by simp at hc⟩⟩
  · rintro (h | h | h)
    · omega
    · cases h
    · cases h
  · rintro k (rfl | h | h)
    · exact hs
    · cases h
    · cases h
/-- A log has gone on. -/
theorem WStand.next {w wr w' : World} {Bl Bo s now : Nat} {L : List CallZ} {O : Nat → Int} {cv mv cv' mv' : Value} (h : WStand w wr Bl Bo s L now O cv mv) (hn : LogNew wr.heap.size cv mv cv' mv') (ho : Only (LogBlk Bl cv mv) wr w') :
    Blk 55 w' Bo (arrV O) ∧ ¬ LogBlk Bl cv' mv' Bo ∧ (∀ k, LogBlk Bl cv' mv' k → w.heap.size ≤ k) ∧ Below w.heap.size w w' := by
  refine ⟨h.arr.only ho h.far, fun hk => ?_, fun k hk => ?_, ho.below_step h.low.size h.low (fun i hi hs => by have := h.high i hs; omega)⟩
  · rcases hn.blk hk with h1 | h1
    · exact h.far h1
    · have := h.arr.lt; omega
  · rcases hn.blk hk with h1 | h1
    · exact h.high k h1
    · exact Nat.le_trans h.low.size h1
/-- .. and what is open is written. -/
theorem WStand.put {w wr w' : World} {Bl Bo s now now' : Nat} {L L' : List CallZ} {O : Nat → Int} {cv mv cv' mv' : Value} (h : WStand w wr Bl Bo s L now O cv mv) (hl : LogIs w' w.heap.size Bl L' now' cv' mv') (hn : LogNew wr.heap.size cv mv cv' mv') (ho : Only (LogBlk Bl cv mv) wr w') {t : Nat} (ht : t < 4) (v : Int) (hwi : WI L' now')
    (hd : ∀ t : Nat, t < s → ∀ c ∈ L', c.th = (t : Int) → c.to ≠ 0) (hop : ∀ u : Nat, s ≤ u → u < 4 → OpenT L' (u : Int) (updO O t v u)) : WStand w (w'.setCell ⟨Bo, t, none⟩ (numV v)) Bl Bo s L' now' (updO O t v) cv' mv' := by
  obtain ⟨h1, h2, h3, h4⟩ := h.next hn ho
  have oo : Only (· = Bo) w' (w'.setCell ⟨Bo, t, none⟩ (numV v)) := (Only.refl (· = Bo) w').setCell (p := ⟨Bo, t, none⟩) (.inl rfl) _
  refine ⟨hl.only oo (fun k hk e => h2 (e ▸ hk)), ?_, h2, h3, h.bo, oo.below_step h4.size h4 (fun i hi e => by have := h.bo; omega), hwi, hd, hop⟩
  have := h1.set t (numV v)
  rw [arr_set O ht] at this
  exact this
theorem WStand.begun {w wr w' : World} {Bl Bo now : Nat} {L : List CallZ} {O : Nat → Int} {cv mv : Value} (h : WStand w wr Bl Bo 0 L now O cv mv) {t : Nat} (ht : t < 4) (hO : ∀ c ∈ L, c.th = (t : Int) → c.to ≠ 0) {o : OpZ} {e : Ending} (hp : BeginTo w.heap.size Bl L now cv mv (t : Int) o wr e w') :
    Blk 55 w' Bo (arrV O) ∧ ∃ cv' mv', WStand w (w'.setCell ⟨Bo, t, none⟩ (numV ((L.length + 1 : Nat) : Int))) Bl Bo 0 (L ++ [beganZ L now (t : Int) o]) (now + 1) (updO O t ((L.length + 1 : Nat) : Int)) cv' mv' := by
  obtain ⟨cv', mv', hl, hn⟩ := hp.ex
  refine ⟨(h.next hn hp.only).1, cv', mv', h.put hl hn hp.only ht _ (h.wi.begin_ _ (by omega) o hO) (fun t ht => by omega) fun u hu hu4 => ?_⟩
  unfold updO
  by_cases e : u = t
  · subst e
    rw [if_pos rfl]
    exact OpenT.mine hO
  · rw [if_neg e]
    exact (h.op u hu hu4).began (by omega)
theorem WStand.over {w wr w' : World} {Bl Bo now : Nat} {L : List CallZ} {O : Nat → Int} {cv mv : Value} (h : WStand w wr Bl Bo 0 L now O cv mv) {t i : Nat} (ht : t < 4) {c : CallZ} (hc : L[i]? = some c) (hth : c.th = (t : Int)) (hto : c.to = 0) (h3 : ∀ j d, L[j]? = some d → d.th = (t : Int) → d.to = 0 → j = i) {a : AnZ} {e : Ending}
    (hp : EndTo w.heap.size Bl (L.set i (endC c a ((now + 1 : Nat) : Int))) (now + 1) cv mv wr e w') :
    Blk 55 w' Bo (arrV O) ∧ WStand w (w'.setCell ⟨Bo, t, none⟩ (numV 0)) Bl Bo 0 (L.set i (endC c a ((now + 1 : Nat) : Int))) (now + 1) (updO O t 0) cv mv := by
  refine ⟨(h.next (LogNew.refl _ _ _) hp.only).1, h.put hp.log (LogNew.refl _ _ _) hp.only ht _ (h.wi.end_ hc hto a) (fun t ht => by omega) fun u hu hu4 => ?_⟩
  unfold updO
  by_cases e : u = t
  · subst e
    rw [if_pos rfl]
    exact .inl ⟨rfl, OpenT.closed hc (by omega) h3⟩
  · rw [if_neg e]
    exact (h.op u hu hu4).ended hc (by rw [hth]; omega)
/-- At the end: one thread more has ended all. -/
theorem WStand.idle {w wr : World} {Bl Bo s now : Nat} {L : List CallZ} {O : Nat → Int} {cv mv : Value} (h : WStand w wr Bl Bo s L now O cv mv) (hO : ∀ c ∈ L, c.th = (s : Int) → c.to ≠ 0) : WStand w wr Bl Bo (s + 1) L now O cv mv :=
  ⟨h.log, h.arr, h.far, h.high, h.bo, h.low, h.wi, fun t ht => by
    by_cases e : t = s
    · subst e; exact hO
    · exact h.done t (by omega), fun t h1 h2 => h.op t (by omega) h2⟩
theorem WStand.last {w wr w' : World} {Bl Bo s now : Nat} {L : List CallZ} {O : Nat → Int} {cv mv : Value} (h : WStand w wr Bl Bo s L now O cv mv) {i : Nat} {c : CallZ} (hc : L[i]? = some c) (hth : c.th = (s : Int)) (hto : c.to = 0) (h3 : ∀ j d, L[j]? = some d → d.th = (s : Int) → d.to = 0 → j = i) {a : AnZ} {e : Ending}
    (hp : EndTo w.heap.size Bl (L.set i (endC c a ((now + 1 : Nat) : Int))) (now + 1) cv mv wr e w') : WStand w w' Bl Bo (s + 1) (L.set i (endC c a ((now + 1 : Nat) : Int))) (now + 1) O cv mv := by
  obtain ⟨h1, h2, h3', h4⟩ := h.next (LogNew.refl _ _ _) hp.only
  have hi : i < L.length := (List.getElem?_eq_some_iff.1 hc).1
  refine ⟨hp.log, h1, h2, h3', h.bo, h4, h.wi.end_ hc hto a, fun t ht => ?_, fun t ht ht4 => (h.op t (by omega) ht4).ended hc (by rw [hth]; omega)⟩
  by_cases e : t = s
  · subst e
    exact OpenT.closed hc (by omega) h3
  · have hc2 : OpenT L (t : Int) 0 := .inl ⟨rfl, h.done t (by omega)⟩
    rcases hc2.ended (a := a) (T := ((now + 1 : Nat) : Int)) hc (by rw [hth]; omega) with ⟨_, h5⟩ | ⟨m, d, h5, _⟩
    · exact h5
    · omega
theorem WStand.all {w wr : World} {Bl Bo now : Nat} {L : List CallZ} {O : Nat → Int} {cv mv : Value} (h : WStand w wr Bl Bo 4 L now O cv mv) : ∀ c ∈ L, c.to ≠ 0 := by
  intro c hc
  obtain ⟨j, hj, rfl⟩ := List.getElem_of_mem hc
  have k := (h.wi j _ (List.getElem?_eq_getElem hj)).thr
  exact h.done L[j].th.toNat (by omega) _ hc (by omega)

end Go.Proofs.Ytjkabbabhfipbaa
