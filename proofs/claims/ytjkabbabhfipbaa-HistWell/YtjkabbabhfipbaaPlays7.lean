/- Layer 7: HistPlays: what lies there, event by event. -/
import Derived.Test.YtjkabbabhfipbaaAwake7
import Derived.Test.YtjkabbabhfipbaaEndNo7
import Derived.Test.YtjkabbabhfipbaaRefBegin7
import Derived.Test.YtjkabbabhfipbaaRefEnd7
import Derived.Test.YtjkabbabhfipbaaRefSame7
namespace Go.Proofs.Ytjkabbabhfipbaa
open Go.RowKit

structure EvZ where
  bg : Bool
  th : Int
  id : Int
  op : OpZ
  an : AnZ
instance : Inhabited EvZ := ⟨⟨false, 0, 0, default, default⟩⟩
def evV (e : EvZ) : List Value :=
  [.bool e.bg, numV e.th, numV e.id, numV e.op.k, numV e.op.s, .string e.op.t, .string e.op.p, .bool e.op.keep, numV e.an.e, numV e.an.a, numV e.an.b, .string e.an.t, .string e.an.p, .bool e.an.kept]

/-- Both logs. -/
structure Both (w wr : World) (Bl Bx : Nat) (L : List CallZ) (now : Nat) (cv mv xv : Value) : Prop where
  log : LogIs wr w.heap.size Bl L now cv mv
  ref : RefIs wr w.heap.size Bx L now xv
  apart : ∀ k, LogBlk Bl cv mv k → ¬ RefBlk Bx xv k
  high : ∀ k, LogBlk Bl cv mv k ∨ RefBlk Bx xv k → w.heap.size ≤ k
  low : Below w.heap.size w wr
theorem Both.below {w wr w' : World} {Bl Bx now : Nat} {L : List CallZ} {cv mv xv : Value} (h : Both w wr Bl Bx L now cv mv xv) (hb : Below wr.heap.size wr w') : Both w w' Bl Bx L now cv mv xv :=
  ⟨h.log.below hb, h.ref.below hb, h.apart, h.high, below_step h.low hb⟩
theorem Both.drewN {w wr : World} {Bl Bx now : Nat} {L : List CallZ} {cv mv xv : Value} (h : Both w wr Bl Bx L now cv mv xv) (n : Nat) : Both w (wr.drewN n) Bl Bx L now cv mv xv := h.below (below_draws (Below.refl _ _) n)
theorem Both.only {w wr w' : World} {Bl Bx now : Nat} {L : List CallZ} {cv mv xv : Value} {S : Nat → Prop} (h : Both w wr Bl Bx L now cv mv xv) (ho : Only S wr w') (hS : ∀ k, S k → w.heap.size ≤ k ∧ ¬ LogBlk Bl cv mv k ∧ ¬ RefBlk Bx xv k) : Both w w' Bl Bx L now cv mv xv :=
  ⟨h.log.only ho (fun k hk hs => (hS k hs).2.1 hk), h.ref.only ho (fun k hk hs => (hS k hs).2.2 hk), h.apart, h.high, ho.below_step h.low.size h.low (fun i hi hs => by have := (hS i hs).1; omega)⟩
/-- The log has gone on, the document's one hasn't. -/
structure Half (w wr : World) (Bl Bx : Nat) (L L' : List CallZ) (now now' : Nat) (cv mv xv : Value) : Prop where
  log : LogIs wr w.heap.size Bl L' now' cv mv
  ref : RefIs wr w.heap.size Bx L now xv
  apart : ∀ k, LogBlk Bl cv mv k → ¬ RefBlk Bx xv k
  high : ∀ k, LogBlk Bl cv mv k ∨ RefBlk Bx xv k → w.heap.size ≤ k
  low : Below w.heap.size w wr
theorem Both.first {w wr w' : World} {Bl Bx now now' : Nat} {L L' : List CallZ} {cv mv xv cv' mv' : Value} (h : Both w wr Bl Bx L now cv mv xv) (hl : LogIs w' w.heap.size Bl L' now' cv' mv') (hn : LogNew wr.heap.size cv mv cv' mv') (ho : Only (LogBlk Bl cv mv) wr w') : Half w w' Bl Bx L L' now now' cv' mv' xv := by
  refine ⟨hl, h.ref.only ho (fun k hk hs => h.apart k hs hk), fun k hk hr => ?_, ?_, ho.below_step h.low.size h.low (fun i hi hs => by have := h.high i (.inl hs); omega)⟩
  · rcases hn.blk hk with h1 | h1
    · exact h.apart k h1 hr
    · have := h.ref.lt hr; omega
  · rintro k (hk | hk)
    · rcases hn.blk hk with h1 | h1
      · exact h.high k (.inl h1)
      · exact Nat.le_trans h.low.size h1
    · exact h.high k (.inr hk)
theorem Half.second {w wr w' : World} {Bl Bx now now' : Nat} {L L' : List CallZ} {cv mv xv xv' : Value} (h : Half w wr Bl Bx L L' now now' cv mv xv) (hr : RefIs w' w.heap.size Bx L' now' xv') (hn : RefNew wr.heap.size xv xv') (ho : Only (RefBlk Bx xv) wr w') : Both w w' Bl Bx L' now' cv mv xv' := by
  have key : ∀ k, RefBlk Bx xv' k → RefBlk Bx xv k ∨ wr.heap.size ≤ k := by
    rintro k (e | e)
    · exact .inl (.inl e)
    · rcases hn with h1 | h1
      · exact .inl (.inr (h1 ▸ e))
      · exact .inr (h1 k e)
  refine ⟨h.log.only ho (fun k hk hs => h.apart k hk hs), hr, fun k hk hx => ?_, ?_, ho.below_step h.low.size h.low (fun i hi hs => by have := h.high i (.inr hs); omega)⟩
  · rcases key k hx with h1 | h1
    · exact h.apart k hk h1
    · have := h.log.lt hk; omega
  · rintro k (hk | hk)
    · exact h.high k (.inl hk)
    · rcases key k hk with h1 | h1
      · exact h.high k (.inr h1)
      · exact Nat.le_trans h.low.size h1
theorem Half.low' {w wr w' : World} {Bl Bx now : Nat} {L : List CallZ} {cv mv xv : Value} (h : Both w wr Bl Bx L now cv mv xv) (hb : Below wr.heap.size wr w') : Half w w' Bl Bx L L now now cv mv xv :=
  let k := h.below hb
  ⟨k.log, k.ref, k.apart, k.high, k.low⟩

/-- What End does. -/
def endOk (L : List CallZ) (id : Int) : Bool := decide (1 ≤ id) && decide (id ≤ (L.length : Int)) && (L.getD (id - 1).toNat default).to == 0
def endL (L : List CallZ) (now : Nat) (id : Int) (a : AnZ) : List CallZ := if endOk L id then L.set (id - 1).toNat (endC (L.getD (id - 1).toNat default) a ((now + 1 : Nat) : Int)) else L
def endN (L : List CallZ) (now : Nat) (id : Int) : Nat := if endOk L id then now + 1 else now
theorem endL_no {L : List CallZ} {now : Nat} {id : Int} {a : AnZ} (h : endOk L id = false) : endL L now id a = L := by unfold endL; rw [h]; rfl
theorem endN_no {L : List CallZ} {now : Nat} {id : Int} (h : endOk L id = false) : endN L now id = now := by unfold endN; rw [h]; rfl
theorem endL_yes {L : List CallZ} {now : Nat} {id : Int} {a : AnZ} {c : CallZ} {i : Nat} (h : endOk L id = true) (hd : L.getD (id - 1).toNat default = c) (hi : (id - 1).toNat = i) : endL L now id a = L.set i (endC c a ((now + 1 : Nat) : Int)) := by unfold endL; rw [h, hd, hi]; rfl
theorem endN_yes {L : List CallZ} {now : Nat} {id : Int} (h : endOk L id = true) : endN L now id = now + 1 := by unfold endN; rw [h]; rfl
theorem end_cases (L : List CallZ) (id : Int) : (endOk L id = false ∧ (id < 1 ∨ (L.length : Int) < id)) ∨ ∃ (i : Nat) (c : CallZ), id = (i : Int) + 1 ∧ L[i]? = some c ∧ ((endOk L id = false ∧ c.to ≠ 0) ∨ (endOk L id = true ∧ c.to = 0 ∧ L.getD (id - 1).toNat default = c ∧ (id - 1).toNat = i)) := by
  by_cases h : id < 1 ∨ (L.length : Int) < id
  · refine .inl ⟨?_, h⟩
    unfold endOk
    rcases h with h | h
    · have : decide (1 ≤ id) = false := by simp; omega
      rw [this]; rfl
    · have : decide (id ≤ (L.length : Int)) = false := by simp; omega
      rw [this]; simp
  · have hi : (id - 1).toNat < L.length := by omega
    have hc := List.getElem?_eq_getElem hi
    have hd : L.getD (id - 1).toNat default = L[(id - 1).toNat] := by rw [List.getD_eq_getElem?_getD, hc]; rfl
    refine .inr ⟨(id - 1).toNat, L[(id - 1).toNat], by omega, hc, ?_⟩
    have e : endOk L id = (L[(id - 1).toNat].to == 0) := by
      unfold endOk
      rw [hd, show decide (1 ≤ id) = true by simp; omega, show decide (id ≤ (L.length : Int)) = true by simp; omega]
      simp
    by_cases hz : L[(id - 1).toNat].to = 0
    · exact .inr ⟨by rw [e, hz]; rfl, hz, hd, rfl⟩
    · exact .inl ⟨by rw [e]; simpa using hz, hz⟩
theorem both_End {w wr : World} {Bl Bx now : Nat} {L : List CallZ} {cv mv xv : Value} (h : Both w wr Bl Bx L now cv mv xv) (hnow : now ≤ 1000000) (hL : L.length ≤ 1000000) (id : Int) (a : AnZ) :
    Calls Try.prog 10 #[.pointer (some ⟨Bl, 0, none⟩), .int .i64 id, anA a] wr fun e w' => e = .returned (.bool (endOk L id)) ∧ Half w w' Bl Bx L (endL L now id a) now (endN L now id) cv mv xv := by
  rcases end_cases L id with ⟨ho, hx⟩ | ⟨i, c, rfl, hc, ⟨ho, hto⟩ | ⟨ho, hto, hd, hi⟩⟩
  · refine (log_End_out h.log id hx a).mono ?_
    rintro e w' ⟨rfl, rfl⟩
    rw [endL_no ho, endN_no ho, ho]
    exact ⟨rfl, Half.low' h ((Below.refl _ _).alloc (Nat.le_refl _) _)⟩
  · refine (log_End_twice h.log i hc hto hL a).mono ?_
    rintro e w' ⟨rfl, hb⟩
    rw [endL_no ho, endN_no ho, ho]
    exact ⟨rfl, Half.low' h hb⟩
  · refine (log_End_yes h.log i hc hto hnow hL a).mono ?_
    intro e w' hp
    rw [endL_yes ho hd hi, endN_yes ho, ho]
    exact ⟨hp.told, h.first hp.log (LogNew.refl _ _ _) hp.only⟩
theorem half_End {w wr : World} {Bl Bx now : Nat} {L : List CallZ} {cv mv xv : Value} {id : Int} {a : AnZ} (h : Half w wr Bl Bx L (endL L now id a) now (endN L now id) cv mv xv) (hnow : now ≤ 1000000) (hL : L.length ≤ 1000000) :
    Calls Try.prog 11 #[.pointer (some ⟨Bx, 0, none⟩), .int .i64 id, anA a] wr fun e w' => e = .returned (.bool (endOk L id)) ∧ Both w w' Bl Bx (endL L now id a) (endN L now id) cv mv xv := by
  have o1 : Only (RefBlk Bx xv) wr (wr.alloc (.cells (anV a).toArray 36)) := (Only.refl _ _).alloc _
  have o0 : Only (fun _ => False) wr (wr.alloc (.cells (anV a).toArray 36)) := (Only.refl _ _).alloc _
  rcases end_cases L id with ⟨ho, hx⟩ | ⟨i, c, rfl, hc, ⟨ho, hto⟩ | ⟨ho, hto, hd, hi⟩⟩
  · refine (ref_End_out h.ref id hx a).mono ?_
    rintro e w' ⟨rfl, rfl⟩
    rw [endL_no ho, endN_no ho] at h ⊢
    rw [ho]
    exact ⟨rfl, h.second (h.ref.only o0 (fun _ _ => fun h => h)) (.inl rfl) o1⟩
  · refine (ref_End_twice h.ref i hc hto hL a).mono ?_
    rintro e w' ⟨rfl, rfl⟩
    rw [endL_no ho, endN_no ho] at h ⊢
    rw [ho]
    exact ⟨rfl, h.second (h.ref.only o0 (fun _ _ => fun h => h)) (.inl rfl) o1⟩
  · refine (ref_End_yes h.ref i hc hto hnow hL a).mono ?_
    intro e w' hp
    rw [endL_yes ho hd hi, endN_yes ho] at h ⊢
    rw [ho]
    exact ⟨hp.told, h.second hp.log (.inl rfl) hp.only⟩
theorem both_Begin {w wr : World} {Bl Bx now : Nat} {L : List CallZ} {cv mv xv : Value} (h : Both w wr Bl Bx L now cv mv xv) (hnow : now ≤ 1000000) (hL : L.length ≤ 100000) (th : Int) (hth : wf64 th) (o : OpZ) :
    Calls Try.prog 8 #[.pointer (some ⟨Bl, 0, none⟩), .int .i64 th, opA o] wr fun e w' => e = .returned (.int .i64 ((L.length + 1 : Nat) : Int)) ∧ ∃ cv' mv', Half w w' Bl Bx L (L ++ [beganZ L now th o]) now (now + 1) cv' mv' xv := by
  refine (log_Begin h.log h.low.size hnow hL th hth o).mono ?_
  intro e w' hp
  obtain ⟨cv', mv', hl, hn⟩ := hp.ex
  exact ⟨hp.told, cv', mv', h.first hl hn hp.only⟩
theorem half_Begin {w wr : World} {Bl Bx now : Nat} {L : List CallZ} {cv mv xv : Value} {th : Int} {o : OpZ} (h : Half w wr Bl Bx L (L ++ [beganZ L now th o]) now (now + 1) cv mv xv) (hnow : now ≤ 1000000) (hL : L.length ≤ 100000) :
    Calls Try.prog 9 #[.pointer (some ⟨Bx, 0, none⟩), .int .i64 th, opA o] wr fun e w' => e = .returned (.int .i64 ((L.length + 1 : Nat) : Int)) ∧ ∃ xv', Both w w' Bl Bx (L ++ [beganZ L now th o]) (now + 1) cv mv xv' := by
  refine (ref_Begin h.ref h.low.size hnow hL th o).mono ?_
  intro e w' hp
  obtain ⟨xv', hr, hn⟩ := hp.ex
  exact ⟨hp.told, xv', h.second hr hn hp.only⟩

end Go.Proofs.Ytjkabbabhfipbaa
