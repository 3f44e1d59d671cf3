/- PoolPlays: both pools, side by side. -/
import Derived.Test.YticdfijblcbbbaaPoolN10
import Derived.Test.YticdfijblcbbbaaRefPoD10
import Derived.Test.YticdfijblcbbbaaRecs
namespace Go.Proofs.Yticdfijblcbbbaa
open Go.RowKit

abbrev encD (p : Int × Int × Int) : List Value := [.int .i64 p.1, .int .i64 p.2.1, .int .i64 p.2.2]
/-- Both, in blocks of their own, above N; and a deed. -/
structure Both10 (w1 w : World) (B : Nat) (pv fv : Value) (X : Nat) (v : Nat → Value) (tv : Value) (x y : Po Int) : Prop where
  po : PiIs w w1.heap.size B pv fv x
  rp : RpIs w w1.heap.size X v tv y
  apart : ∀ k, PiBlk B pv fv k → RpBlk X v tv k → False
  below : Below w1.heap.size w1 w
  lows : w1.heap.size ≤ B ∧ w1.heap.size ≤ X
section
variable {w1 w w' : World} {B X Bd : Nat} {pv fv tv pv' fv' tv' : Value} {v v' : Nat → Value} {x x' y y' : Po Int} {dd : List Value}
theorem Both10.poLow (h : Both10 w1 w B pv fv X v tv x y) {k : Nat} (hk : PiBlk B pv fv k) : w1.heap.size ≤ k := by
  rcases hk with rfl | hk | hk
  · exact h.lows.1
  · exact (h.po.row.lt k hk).1
  · exact (h.po.fr.lt k hk).1
theorem Both10.rpLow (h : Both10 w1 w B pv fv X v tv x y) {k : Nat} (hk : RpBlk X v tv k) : w1.heap.size ≤ k := by
  rcases hk with rfl | hk | hk
  · exact h.lows.2
  · exact (h.rp.own.lt hk).1
  · exact (h.rp.tk.lt k hk).1
theorem Both10.keep (h : Both10 w1 w B pv fv X v tv x y) (hb : Below w.heap.size w w') : Both10 w1 w' B pv fv X v tv x y :=
  ⟨h.po.below hb, h.rp.below hb, h.apart, h.below.trans (hb.mono h.below.size), h.lows⟩
theorem Both10.drewN (h : Both10 w1 w B pv fv X v tv x y) (n : Nat) : Both10 w1 (w.drewN n) B pv fv X v tv x y := h.keep (below_draws (Below.refl _ _) n)
theorem Both10.turnPo (h : Both10 w1 w B pv fv X v tv x y) (h1 : PiIs w' w1.heap.size B pv' fv' x') (hn : PiNew w.heap.size B pv fv pv' fv') (ho : Only (PiBlk B pv fv) w w') : Both10 w1 w' B pv' fv' X v tv x' y := by
  refine ⟨h1, h.rp.only ho (fun k hk he => h.apart k he hk), fun k he hr => ?_, Only.below_step h.below.size h.below ho (fun i hi e => by have := h.poLow e; omega), h.lows⟩
  rcases hn k he with e | e
  · exact h.apart k e hr
  · have := h.rp.lt hr; omega
theorem Both10.turnRp (h : Both10 w1 w B pv fv X v tv x y) (h1 : RpIs w' w1.heap.size X v' tv' y') (hn : RpNew w.heap.size X v tv v' tv') (ho : Only (RpBlk X v tv) w w') : Both10 w1 w' B pv fv X v' tv' x y' := by
  refine ⟨h.po.only ho (fun k hk he => h.apart k hk he), h1, fun k he hr => ?_, Only.below_step h.below.size h.below ho (fun i hi e => by have := h.rpLow e; omega), h.lows⟩
  rcases hn k hr with e | e
  · exact h.apart k he e
  · have := h.po.lt he; omega
theorem PiIs.apartD {lo : Nat} (h : PiIs w lo B pv fv x) (hd : Blk 29 w Bd dd) : ¬ PiBlk B pv fv Bd := by
  rintro (e | e | e)
  · exact blk_ne10 hd h.blk (by decide) e
  · exact blk_apart hd h.row e (by decide) rfl
  · exact blk_apart hd h.fr e (by decide) rfl
theorem RpR.apartD {lo lim : Nat} {q : Nat → List Int} {T : List Bool} (h : RpR w lo X v tv q T lim) (hd : Blk 29 w Bd dd) : ¬ RpBlk X v tv Bd := by
  rintro (e | ⟨j, hj, e⟩ | e)
  · exact blk_ne10 hd h.blk (by decide) e
  · exact blk_apart hd (h.own.own j hj) e (by decide) rfl
  · exact blk_apart hd h.tk e (by decide) rfl
end
theorem takeZ_st {α : Type} {x y : Po α} {u : α} {j : Int} {s k : Nat} (hf : FOk x) (h : takeZ x u = some (j, s, y)) (hs : ∀ p ∈ x.M, p.st ≤ k) : ∀ p ∈ y.M, p.st ≤ k := by
  rcases free_last hf with e | ⟨F, i, p, e, hp⟩
  · by_cases hl : x.lim ≤ x.M.length
    · rw [takeZ_full e hl] at h; cases h
    · rw [takeZ_new e hl] at h
      simp only [Option.some.injEq, Prod.mk.injEq] at h
      obtain ⟨_, _, rfl⟩ := h
      intro q hq
      simp only [List.mem_append, List.mem_singleton] at hq
      rcases hq with hq | rfl
      · exact hs q hq
      · exact Nat.zero_le _
  · rw [takeZ_free e hp] at h
    simp only [Option.some.injEq, Prod.mk.injEq] at h
    obtain ⟨_, _, rfl⟩ := h
    intro q hq
    rcases List.mem_or_eq_of_mem_set hq with hq | rfl
    · exact hs q hq
    · exact hs p (List.mem_of_getElem? hp)
theorem giveZ_st {α : Type} {x y : Po α} {id : Int} {k : Nat} (h : giveZ x id = some y) (hs : ∀ p ∈ x.M, p.st ≤ k) : ∀ p ∈ y.M, p.st ≤ k + 1 := by
  cases hh : hasP x.M.length id with
  | false => rw [giveZ_no hh] at h; cases h
  | true =>
    obtain ⟨i, rfl, hi⟩ := hasP_yes hh
    rw [giveZ_at (List.getElem?_eq_getElem hi)] at h
    split at h
    · cases h
      intro q hq
      rcases List.mem_or_eq_of_mem_set hq with hq | rfl
      · exact Nat.le_succ_of_le (hs q hq)
      · exact Nat.succ_le_succ (hs _ (List.getElem_mem hi))
    · cases h
/-- Where the loop stands. -/
structure PSt (w1 w : World) (B : Nat) (pv fv : Value) (X : Nat) (v : Nat → Value) (tv : Value) (x : Po Int) (k : Nat) : Prop where
  both : Both10 w1 w B pv fv X v tv x x
  fl : x.F.length ≤ k
  sl : ∀ p ∈ x.M, p.st ≤ k
section
variable {w1 w w' : World} {B X Bd k : Nat} {pv fv tv pv' fv' tv' : Value} {v v' : Nat → Value} {x x' y y' : Po Int} {dd : List Value}
theorem pst_start {w2 w3 : World} {n : Int} (h1 : PiIs w2 w1.heap.size B pv fv ⟨limZ n, [], []⟩) (hB : w1.heap.size ≤ B) (b1 : Below w1.heap.size w1 w2) (h2 : RpIs w3 w2.heap.size X (fun _ => .slice none 0 0) (.slice none 0 0) ⟨limZ n, [], []⟩) (hX : w2.heap.size ≤ X) (b2 : Below w2.heap.size w2 w3) :
    PSt w1 w3 B pv fv X (fun _ => .slice none 0 0) (.slice none 0 0) ⟨limZ n, [], []⟩ 0 := by
  have hz := b1.size
  refine ⟨⟨h1.below b2, ⟨h2.blk, ⟨fun j hj => own_lower (h2.own.own j hj) hz, h2.own.sep⟩, own_lower h2.tk hz⟩, fun k he hr => ?_, b1.trans (b2.mono hz), ⟨hB, by omega⟩⟩, by simp, by simp⟩
  have h3 := h1.lt he
  rcases hr with e | ⟨j, _, e⟩ | e
  · omega
  · simp [Value.ownBlock] at e
  · simp [Value.ownBlock] at e
theorem PSt.keep (h : PSt w1 w B pv fv X v tv x k) (hb : Below w.heap.size w w') : PSt w1 w' B pv fv X v tv x k := ⟨h.both.keep hb, h.fl, h.sl⟩
theorem PSt.next (h : PSt w1 w B pv fv X v tv x k) : PSt w1 w B pv fv X v tv x (k + 1) := ⟨h.both, by have := h.fl; omega, fun p hp => Nat.le_succ_of_le (h.sl p hp)⟩
theorem PSt.ml (h : PSt w1 w B pv fv X v tv x k) : x.M.length ≤ 65536 := Nat.le_trans h.both.po.ml h.both.po.lims
theorem PSt.take {u : Int} {j : Int} {s : Nat} (h : PSt w1 w B pv fv X v tv x k) (ht : takeZ x u = some (j, s, y)) (hb : Both10 w1 w' B pv' fv' X v' tv' y y) : PSt w1 w' B pv' fv' X v' tv' y (k + 1) :=
  ⟨hb, by have := (h.both.po.fok.take ht).2.2.2.2; have := h.fl; omega, fun p hp => Nat.le_succ_of_le (takeZ_st h.both.po.fok ht h.sl p hp)⟩
theorem PSt.give {id : Int} (h : PSt w1 w B pv fv X v tv x k) (ht : giveZ x id = some y) (hb : Both10 w1 w' B pv' fv' X v' tv' y y) : PSt w1 w' B pv' fv' X v' tv' y (k + 1) :=
  ⟨hb, by have := (h.both.po.fok.give ht).2.2.2; have := h.fl; omega, giveZ_st ht h.sl⟩
end

end Go.Proofs.Yticdfijblcbbbaa
