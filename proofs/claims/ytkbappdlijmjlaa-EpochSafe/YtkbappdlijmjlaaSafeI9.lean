/- EpochSafe: where its loops stand. -/
import Derived.Test.YtkbappdlijmjlaaSafeT9
import Derived.Test.YtkbappdlijmjlaaLaw9
namespace Go.Proofs.Ytkbappdlijmjlaa
open Go.RowKit

/-- All that it keeps, above w1. -/
structure SfIs (w1 w : World) (B P Gw Gt Rt : Nat) (v : Nat → Value) (x : Ep) (wv : Value) (H : List (List Bool)) (T : List Bool) : Prop where
  ep : EpIs w w1.heap.size B P v x
  who : WhoIs w w1.heap.size Gw Gt Rt wv H T
  below : Below w1.heap.size w1 w
  lows : w1.heap.size ≤ B ∧ w1.heap.size ≤ P
section
variable {w1 w w' : World} {B P Gw Gt Rt : Nat} {v v' : Nat → Value} {x x' : Ep} {wv wv' : Value} {H H' : List (List Bool)} {T T' : List Bool}
theorem SfIs.low (h : SfIs w1 w B P Gw Gt Rt v x wv H T) {k : Nat} (hk : EpBlk B P v k) : w1.heap.size ≤ k := by
  rcases hk with rfl | rfl | hk
  · exact h.lows.1
  · exact h.lows.2
  · exact (h.ep.own.lt hk).1
theorem SfIs.keep (h : SfIs w1 w B P Gw Gt Rt v x wv H T) (hb : Below w.heap.size w w') : SfIs w1 w' B P Gw Gt Rt v x wv H T :=
  ⟨h.ep.below hb, h.who.below hb, h.below.trans (hb.mono h.below.size), h.lows⟩
theorem SfIs.drewN (h : SfIs w1 w B P Gw Gt Rt v x wv H T) (n : Nat) : SfIs w1 (w.drewN n) B P Gw Gt Rt v x wv H T := h.keep (below_draws (Below.refl _ _) n)
theorem SfIs.turnEp (h : SfIs w1 w B P Gw Gt Rt v x wv H T) (h1 : EpIs w' w1.heap.size B P v' x') (ho : Only (EpBlk B P v) w w') : SfIs w1 w' B P Gw Gt Rt v' x' wv H T :=
  ⟨h1, h.who.only ho (fun _ hk hk' => h.who.apart h.ep hk hk'), Only.below_step h.below.size h.below ho (fun i hi e => by have := h.low e; omega), h.lows⟩
theorem SfIs.turnWho (h : SfIs w1 w B P Gw Gt Rt v x wv H T) (h1 : WhoIs w' w1.heap.size Gw Gt Rt wv' H' T') (ho : Only (WhoBlk Gw Gt Rt wv) w w') : SfIs w1 w' B P Gw Gt Rt v x wv' H' T' :=
  ⟨h.ep.only ho (fun _ hk hk' => h.who.apart h.ep hk' hk), h1, Only.below_step h.below.size h.below ho (fun i hi e => by have := h.who.low e; omega), h.lows⟩
/-- Where the loop stands. -/
structure SSt (w1 w : World) (B P Gw Gt Rt : Nat) (v : Nat → Value) (x : Ep) (wv : Value) (H : List (List Bool)) (E : List Nat) (T : List Bool) (W : List (Int × Nat)) (k : Nat) : Prop where
  is : SfIs w1 w B P Gw Gt Rt v x wv H T
  z : SafeZ x H E T W
  hn : H.length ≤ k
  nn : x.now ≤ k
  wl : W.length ≤ k
  fresh : ∀ j, H.length ≤ j → j < 300 → T[j]? = some false
variable {E : List Nat} {W : List (Int × Nat)} {k : Nat}
theorem SSt.next (h : SSt w1 w B P Gw Gt Rt v x wv H E T W k) : SSt w1 w B P Gw Gt Rt v x wv H E T W (k + 1) := ⟨h.is, h.z, by have := h.hn; omega, by have := h.nn; omega, by have := h.wl; omega, h.fresh⟩
theorem SSt.keep (h : SSt w1 w B P Gw Gt Rt v x wv H E T W k) (hb : Below w.heap.size w w') : SSt w1 w' B P Gw Gt Rt v x wv H E T W k := ⟨h.is.keep hb, h.z, h.hn, h.nn, h.wl, h.fresh⟩
theorem SSt.drewN (h : SSt w1 w B P Gw Gt Rt v x wv H E T W k) (n : Nat) : SSt w1 (w.drewN n) B P Gw Gt Rt v x wv H E T W k := h.keep (below_draws (Below.refl _ _) n)
theorem pinOnly {w w' : World} {B P : Nat} {v : Nat → Value} (h : Only (· = P) w w') : Only (EpBlk B P v) w w' := h.mono fun _ _ e => .inr (.inl e)
theorem SSt.pin (h : SSt w1 w B P Gw Gt Rt v x wv H E T W k) {t : Nat} (h1 : EpIs w' w1.heap.size B P v ⟨x.now, if hasT x (t : Int) && !isPin x (t : Int) then x.pins.set ((t : Int)).toNat (some x.now) else x.pins, x.q⟩) (ho : Only (· = P) w w') :
    ∃ x', SSt w1 w' B P Gw Gt Rt v x' wv H E T W (k + 1) :=
  ⟨_, h.is.turnEp h1 (pinOnly ho), h.z.pin t, by have := h.hn; omega, by have := h.nn; simp only; omega, by have := h.wl; omega, h.fresh⟩
/-- Unpinned; of whom it is said is taken back one by one. -/
def offTo (t : Nat) (H : List (List Bool)) (j : Nat) : List (List Bool) := (H.take j).map (·.set t false) ++ H.drop j
theorem offTo_len (t : Nat) (H : List (List Bool)) (j : Nat) : (offTo t H j).length = H.length := by
  unfold offTo
  simp
  omega
theorem offTo_at {t : Nat} {H : List (List Bool)} {j : Nat} (hj : j < H.length) : (offTo t H j)[j]? = some H[j] := by
  unfold offTo
  have hl : ((H.take j).map (·.set t false)).length = j := by simp; omega
  rw [List.getElem?_append_right (by omega), hl, Nat.sub_self, List.getElem?_drop]
  simp [hj]
theorem offTo_step {t : Nat} {H : List (List Bool)} {j : Nat} (hj : j < H.length) : (offTo t H j).set j (H[j].set t false) = offTo t H (j + 1) := by
  unfold offTo
  have hl : ((H.take j).map (·.set t false)).length = j := by simp; omega
  rw [List.set_append_right _ _ (by omega), hl, Nat.sub_self, List.drop_eq_getElem_cons hj, List.set_cons_zero, List.take_succ_eq_append_getElem hj, List.map_append]
  simp
theorem offTo_zero (t : Nat) (H : List (List Bool)) : offTo t H 0 = H := by simp [offTo]
theorem offTo_all (t : Nat) (H : List (List Bool)) : offTo t H H.length = H.map (·.set t false) := by simp [offTo]
theorem SSt.unpin (h : SSt w1 w B P Gw Gt Rt v x wv H E T W k) {t : Nat} (ht : t < 8) (h1 : SfIs w1 w' B P Gw Gt Rt v ⟨x.now, if isPin x (t : Int) then x.pins.set ((t : Int)).toNat none else x.pins, x.q⟩ wv (offTo t H H.length) T) :
    ∃ x' H', SSt w1 w' B P Gw Gt Rt v x' wv H' E T W (k + 1) := by
  rw [offTo_all] at h1
  exact ⟨_, _, h1, h.z.unpin t ht, by have := h.hn; simp; omega, by have := h.nn; simp only; omega, by have := h.wl; omega, fun j hj => h.fresh j (by simpa using hj)⟩
theorem SSt.retire (h : SSt w1 w B P Gw Gt Rt v x wv H E T W k) (hk : k < 300) (h1 : SfIs w1 w' B P Gw Gt Rt v' ⟨x.now, x.pins, upd x.q (x.now % 3) (x.q (x.now % 3) ++ [(H.length : Int)])⟩ wv' (H ++ [x.pins.map Option.isSome]) T) :
    ∃ x' H' E' W', SSt w1 w' B P Gw Gt Rt v' x' wv' H' E' T W' (k + 1) :=
  ⟨_, _, _, _, h1, h.z.retire (by have := h.hn; omega) h.fresh, by have := h.hn; simp; omega, by have := h.nn; simp only; omega, by have := h.wl; simp; omega, fun j hj => h.fresh j (by simp at hj; omega)⟩
theorem SSt.adv (h : SSt w1 w B P Gw Gt Rt v x wv H E T W k) (h1 : SfIs w1 w' B P Gw Gt Rt v' ⟨x.now + 1, x.pins, upd x.q ((x.now + 1) % 3) []⟩ wv H (tellTo T (x.q ((x.now + 1) % 3)))) :
    ∃ x' T' W', SSt w1 w' B P Gw Gt Rt v' x' wv H E T' W' (k + 1) ∧ x'.pins = x.pins ∧ x'.now = x.now + 1 := by
  refine ⟨_, _, _, ⟨h1, h.z.adv, by have := h.hn; omega, by have := h.nn; simp only; omega, by have := h.wl; have := List.length_filter_le (fun p => !oldZ (x.now + 1) p) W; omega, fun j hj hj3 => ?_⟩, rfl, rfl⟩
  have h0 : ∀ a ∈ x.q ((x.now + 1) % 3), ∃ m : Nat, a = (m : Int) ∧ m < H.length := fun a ha => by
    rw [h.z.ag.told] at ha
    obtain ⟨p, hp, rfl⟩ := List.mem_map.1 ha
    obtain ⟨m, e1, e2⟩ := h.z.we p (List.mem_filter.1 hp).1
    exact ⟨m, e1, by rw [h.z.hl]; exact (List.getElem?_eq_some_iff.1 e2).1⟩
  rw [tellTo_at (fun a ha => by obtain ⟨m, e, _⟩ := h0 a ha; omega), if_neg (fun hc => by obtain ⟨m, e, hm⟩ := h0 _ hc; omega)]
  exact h.fresh j hj hj3
theorem SSt.who (h : SSt w1 w B P Gw Gt Rt v x wv H E T W k) (h1 : WhoIs w' w1.heap.size Gw Gt Rt wv H T) (ho : Only (· = Rt) w w') : SSt w1 w' B P Gw Gt Rt v x wv H E T W k :=
  ⟨h.is.turnWho h1 (ho.mono fun _ _ e => .inr (.inr (.inl e))), h.z, h.hn, h.nn, h.wl, h.fresh⟩
/-- Who is pinned, written down one by one. -/
def nowTo (L : List Bool) (j : Nat) : List Bool := L.take j ++ List.replicate (8 - j) false
theorem nowTo_step {L : List Bool} (hL : L.length = 8) {j : Nat} (hj : j < 8) : (row8 (nowTo L j)).set j (.bool (L[j]'(by omega))) = row8 (nowTo L (j + 1)) := by
  unfold nowTo
  have e : 8 - j = (8 - (j + 1)) + 1 := by omega
  have hl : (L.take j).length = j := by simp; omega
  rw [e, List.replicate_succ, List.take_succ_eq_append_getElem (by omega)]
  simp only [row8, List.map_append, List.map_cons, List.map_nil]
  rw [List.set_append_right _ _ (by simp; omega), List.length_map, hl, Nat.sub_self, List.set_cons_zero]
  simp
theorem nowTo_len {L : List Bool} (hL : L.length = 8) {j : Nat} (hj : j ≤ 8) : (nowTo L j).length = 8 := by unfold nowTo; simp; omega
theorem blk_range9 {t : TypeId} {w : World} {B : Nat} {l : List Value} (h : Blk t w B l) : w.rangeAt B 0 l := fun j v hv => by rw [Nat.zero_add]; exact h.at hv
theorem list8 {α : Type} {l : List α} (h : l.length = 8) : ∃ a b c d e f g i, l = [a, b, c, d, e, f, g, i] := by
  match l, h with
  | [a, b, c, d, e, f, g, i], _ => exact ⟨a, b, c, d, e, f, g, i, rfl⟩
theorem nowTo_all {L : List Bool} (hL : L.length = 8) : nowTo L 8 = L := by unfold nowTo; rw [List.take_of_length_le (by omega)]; simp
theorem isPin_at {x : Ep} {j : Nat} (hj : j < (x.pins.map Option.isSome).length) : isPin x (j : Int) = (x.pins.map Option.isSome)[j] := by
  have hj' : j < x.pins.length := by simpa using hj
  unfold isPin hasT
  simp [List.getD_eq_getElem?_getD, hj']
/-- One more is retired. -/
theorem WhoIs.grown {w5 : World} {N : Nat} {ob : Obj} {g' cap' : Nat} {h : List Bool} (hw : WhoIs w N Gw Gt Rt wv H T) (h8 : h.length = 8) (hgrow : (w.alloc ob).grownBy w5 wv.ownBlock)
    (hown : w5.ownsRow N 42 8 (.slice (some ⟨g', 0, none⟩) (H.length + 1) cap') (H.length + 1) (H.flatMap row8 ++ row8 h)) :
    (w5.cell? ⟨Gw, 0, none⟩ = some wv ∧ w5.frozen? ⟨Gw, 0, none⟩ = false) ∧ WhoIs (w5.setCell ⟨Gw, 0, none⟩ (.slice (some ⟨g', 0, none⟩) (H.length + 1) cap')) N Gw Gt Rt (.slice (some ⟨g', 0, none⟩) (H.length + 1) cap') (H ++ [h]) T ∧
    Only (WhoBlk Gw Gt Rt wv) w (w5.setCell ⟨Gw, 0, none⟩ (.slice (some ⟨g', 0, none⟩) (H.length + 1) cap')) := by
  have ha := hw.below ((Below.refl _ _).alloc (Nat.le_refl _) ob)
  have ho := grown_only hgrow
  have b5 := ha.wb.only ho (fun e => blk_apart ha.wb ha.wr e (by decide) rfl)
  have t5 := ha.tb.only ho (fun e => blk_apart ha.tb ha.wr e (by decide) rfl)
  have r5 := ha.tr.only ho (fun e => blk_apart ha.tr ha.wr e (by decide) rfl)
  have o6 := only_at w5 Gw 0 (.slice (some ⟨g', 0, none⟩) (H.length + 1) cap')
  refine ⟨⟨b5.at rfl, b5.frozen 0⟩, ⟨b5.set 0 _, ?_, fun f hf => ?_, t5.only o6 (blk_ne t5 b5 (by decide)), r5.only o6 (blk_ne r5 b5 (by decide)), hw.tl, hw.lows⟩, ?_⟩
  · have := own_only hown o6 (fun k hk e => blk_apart b5 hown hk (by decide) e.symm)
    rw [List.length_append, List.flatMap_append]
    simpa using this
  · rcases List.mem_append.1 hf with hf | hf
    · exact hw.h8 f hf
    · simp at hf; rw [hf]; exact h8
  · exact (((Only.refl (WhoBlk Gw Gt Rt wv) w).alloc ob).step ho (fun i hi e => .inr (.inr (.inr e)))).step o6 (fun i hi e => .inl e)
end

end Go.Proofs.Ytkbappdlijmjlaa
