/- Layer 8 (package lin): tally. -/
import Derived.Test.YthngehpmoiojfaaEach8
namespace Go.Proofs.Ythngehpmoiojfaa
open Go.RowKit

def cntF (L : List CallZ) (D : List Bool) (s : StZ) : Nat := (conts smallM L (nU L D) D s).length
def noneF (_ : List Bool) (_ : StZ) : Option (List Int) := none
theorem find_none {L : List CallZ} {D : List Bool} {s : StZ} : ∀ P : List Int, P.findSome? (stepR L D s noneF) = none
  | [] => rfl
  | p :: P => by
    rw [List.findSome?_cons]
    have : stepR L D s noneF p = none := by unfold stepR; split <;> rfl
    rw [this]
    exact find_none P
theorem sum_conts {L : List CallZ} {D : List Bool} {n : Nat} {s : StZ} (hD : L.length ≤ D.length) (hn : nU L D = n + 1) : ((minZ L D).map (stepC L D s (cntF L))).sum = (conts smallM L (n + 1) D s).length := by
  rw [conts_len]
  refine sum_cong fun y hy => ?_
  unfold stepC cntF
  rw [nU_next hD hn hy]
set_option maxHeartbeats 2000000 in
theorem se_tally0 {B : Nat} {s0 : StZ} {L : List CallZ} {cv mv : Value} {c : Nat} : GoOn 24 B s0 L cv mv 0 c noneF (cntF L) := by
  intro K w x s h hn hO hs hf0 hf hk
  have hw := se_whole (h.alloc (.cells (stV s).toArray 40))
  rw [show decide (x.O.length = L.length) = true from decide_eq_true (by omega)] at hw
  have hc1 : cntF L x.D s = 1 := by unfold cntF; rw [hn]; rfl
  rw [hc1] at hf ⊢
  go_enter Try.func24, Try.ntmps24
  go_wp2_with fail
  refine hw.mono ?_
  rintro e w2 ⟨rfl, hb⟩
  have h2 := (h.alloc (.cells (stV s).toArray 40)).below hb
  have c1 := h2.fndAt
  have f1 := h2.blk.frozen 31
  have hb2 := h2.blk.set 31 (numV (x.fnd + 1))
  rw [show 31 = 29 + 2 from rfl, seV_set_tail h2.dl] at hb2
  have ho := only_cell w2 B 31 (numV (x.fnd + 1))
  have H3 := Lib.hid (h2.store (x' := ⟨x.ov, x.D, x.O, x.fnd + 1, x.n⟩) hb2 ho h2.dl rfl h2.own h2.ko)
  have Q3 := Lib.hid ((((Only.refl (fun k => ¬ K k) w).alloc (.cells (stV s).toArray 40)).trans (Only.of_below hb _)).trans (h2.onlyB ho))
  clear hb2 ho h2 h hs hw hn hO hc1 hb
  have g1 : x.fnd ≤ 1000000 := by omega
  go_wp2
  go_ret
  exact ⟨false, _, rfl, H3.out, Q3.out, rfl, rfl, rfl, rfl, by simp only; omega⟩

set_option maxHeartbeats 2000000 in
theorem se_tally {B : Nat} {s0 : StZ} {L : List CallZ} {cv mv : Value} {c : Nat} (hL : L.length ≤ 24) (hp : ∀ y ∈ L, y.op.p.size ≤ c) : ∀ n, GoOn 24 B s0 L cv mv n c noneF (cntF L)
  | 0 => se_tally0
  | n + 1 => by
    have IH := Lib.hid (se_tally (B := B) (s0 := s0) (cv := cv) (mv := mv) hL hp n)
    intro K w x s h hn hO hs hf0 hf hk
    have hw := se_whole (h.alloc (.cells (stV s).toArray 40))
    rw [show decide (x.O.length = L.length) = false from decide_eq_false (by omega)] at hw
    have hc1 := sum_conts (s := s) (by rw [h.dl]; exact hL) hn
    rw [show cntF L x.D s = (conts smallM L (n + 1) x.D s).length by unfold cntF; rw [hn], ← hc1] at hf ⊢
    rw [cost_sum] at hk ⊢
    have HE : Hid (∀ (K' : Nat → Prop) (w3 : World) (pa : Option Addr) (cap : Nat), SeIs K' w3 B s0 L cv mv x → PlK K' w3 pa (minZ L x.D) → _) := Lib.hid (fun K' w3 pa cap h3 hpl => se_each_tally (cap := cap) h3 IH.out hn hO hL hs hp min_places (by have := min_len L x.D; omega) hpl hf0 hf (by omega))
    have H := Lib.hid h
    have HN := Lib.hid (find_none (L := L) (D := x.D) (s := s) (minZ L x.D))
    clear hf hk hc1 hs hf0 hp h hO hn
    go_enter Try.func24, Try.ntmps24
    go_wp2_with fail
    refine hw.mono ?_
    rintro e w2 ⟨rfl, hb⟩
    have B2 := Lib.hid (((Blk.new (W := w) (t := 40) (l := stV s)).below hb (by simp)).drewN 1)
    have H2 := Lib.hid ((((H.out.boxed (l := stV s) (t := 40))).below hb).drewN 1)
    have Q2 := Lib.hid ((((Only.refl (fun k => ¬ K k) w).alloc (.cells (stV s).toArray 40)).trans (Only.of_below hb _)).drewN 1)
    clear hb hw
    go_upto_region 4 with fail
    refine wp_region_noPanic ?_
    refine wp_region_held_drew (S := (fun w' => w'.rangeAt w.heap.size 0 (stV s))) (by kernel_rfl) ?_ (fun hHeld => ?_)
    · first | exact blk_range B4.out | exact blk_range B3.out | exact blk_range B2.out
    refine wpAnyH_take (i := 0) (oi := ⟨some 14, _, _, _, _, _⟩) (v := ?_) rfl (by kernel_rfl) (by kernel_rfl) (by kernel_rfl) (fun _ _ _ h => h) (Or.inl ⟨by rfl, ?_⟩) (by assumption) ?_
    rotate_left
    · (intro w hSw; (try dsimp only at hSw); go_simp; try with_reducible rfl)
    try simp only [Act.put, List.setIfInBounds_toArray, List.set_cons_zero, List.set_cons_succ]
    refine wpAnyH_take (i := 1) (oi := ⟨some 15, _, _, _, _, _⟩) (v := stA s) rfl (by kernel_rfl) (by kernel_rfl) (by kernel_rfl) (fun _ _ _ h => h) (yieldsIf_load_mid (by rfl) 40 _ rfl w.heap.size 0 rfl (stV s) _ (fun w h => h) Try.underlying40 rfl (by kernel_rfl)) (by assumption) ?_
    try simp only [Act.put, List.setIfInBounds_toArray, List.set_cons_zero, List.set_cons_succ]
    refine wpAnyH_take (i := 2) (oi := ⟨some 16, _, _, _, _, _⟩) (v := ?_) rfl (by kernel_rfl) (by kernel_rfl) (by kernel_rfl) (fun _ _ _ h => h) (Or.inl ⟨by rfl, ?_⟩) (by assumption) ?_
    rotate_left
    · (intro w hSw; (try dsimp only at hSw); go_simp; try with_reducible rfl)
    try simp only [Act.put, List.setIfInBounds_toArray, List.set_cons_zero, List.set_cons_succ]
    refine wpAnyH_take (i := 4) (oi := ⟨some 18, _, _, _, _, _⟩) (v := ?_) rfl (by kernel_rfl) (by kernel_rfl) (by kernel_rfl) (fun _ _ _ h => h) (Or.inl ⟨by rfl, ?_⟩) (by assumption) ?_
    rotate_left
    · (intro w hSw; (try dsimp only at hSw); go_simp; try with_reducible rfl)
    try simp only [Act.put, List.setIfInBounds_toArray, List.set_cons_zero, List.set_cons_succ]
    refine wpAnyH_take (i := 5) (oi := ⟨some 19, _, _, _, _, _⟩) (v := ?_) rfl (by kernel_rfl) (by kernel_rfl) (by kernel_rfl) (fun _ _ _ h => h) (Or.inl ⟨by rfl, ?_⟩) (by assumption) ?_
    rotate_left
    · (intro w hSw; (try dsimp only at hSw); go_simp; try with_reducible rfl)
    try simp only [Act.put, List.setIfInBounds_toArray, List.set_cons_zero, List.set_cons_succ]
    refine wpAnyH_ready (rs := [3]) (by kernel_rfl) (by simp) ?_
    refine AllReadyH.cons (o := ⟨some 17, _, _, _, _, _⟩) rfl (fun K hK => ?_) AllReadyH.nil
    go_simp
    refine (se_next H2.out (by omega)).mono ?_
    rintro e w3 ⟨r, rfl, hr3, hb3⟩
    obtain ⟨⟨pa, cap, rfl, pl3⟩, h3⟩ := H2.out.places hb3 hr3
    have B3 := Lib.hid (B2.out.below hb3 B2.out.lt)
    have H3 := Lib.hid (HE.out _ w3 pa cap h3 pl3)
    have Q3 := Lib.hid (Q2.out.trans (Only.of_below hb3 _))
    clear hr3 hb3 pl3 h3
    go_wp2_with fail
    refine hK.out _ _ ?_ (fun hHeldX => ?_)
    · first | exact blk_range B4.out | exact blk_range B3.out | exact blk_range B2.out
    clear hK K hHeld
    rename _ => hHeld
    try simp only [Act.put, List.setIfInBounds_toArray, List.set_cons_zero, List.set_cons_succ]
    refine wpAnyH_ready (rs := [6]) (by kernel_rfl) (by simp) ?_
    refine AllReadyH.cons (o := ⟨some 20, _, _, _, _, _⟩) rfl (fun K hK => ?_) AllReadyH.nil
    go_simp
    refine H3.out.mono ?_
    rintro e w4 hE
    have E4 := Lib.hid (GoEnd.less H.out hE (fun _ h => .inl (.inl h)) Q3.out)
    obtain ⟨r, x4, rfl, _, q4, _⟩ := hE
    have B4 := Lib.hid (B3.out.only q4 (fun h => h (.inl (.inr rfl))))
    clear q4
    go_wp2_with fail
    refine hK.out _ _ ?_ (fun hHeldX => ?_)
    · first | exact blk_range B4.out | exact blk_range B3.out | exact blk_range B2.out
    clear hK K hHeld
    rename _ => hHeld
    try simp only [Act.put, List.setIfInBounds_toArray, List.set_cons_zero, List.set_cons_succ]
    refine wpAnyH_take (i := 7) (oi := ⟨some 4, _, _, _, _, _⟩) (v := ?_) rfl (by kernel_rfl) (by kernel_rfl) (by kernel_rfl) (fun _ _ _ h => h) (Or.inl ⟨by rfl, ?_⟩) (by assumption) ?_
    rotate_left
    · (intro w hSw; (try dsimp only at hSw); go_simp; try with_reducible rfl)
    try simp only [Act.put, List.setIfInBounds_toArray, List.set_cons_zero, List.set_cons_succ]
    refine wpAnyH_done (by kernel_rfl) ?_ _
    refine NoPanic.normal ?_
    go_wp2
    go_ret
    obtain ⟨r, x5, e5, h5, q5, g5⟩ := E4.out
    rw [HN.out] at g5
    exact ⟨r, x5, e5, h5, q5, g5.1, g5.2.1, g5.2.2.1, g5.2.2.2.1, by have := g5.2.2.2.2; omega⟩

end Go.Proofs.Ythngehpmoiojfaa
