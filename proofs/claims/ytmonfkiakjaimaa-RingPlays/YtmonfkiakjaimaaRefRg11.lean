/- Layer 11: the document's ring (bellmanref11) in memory; New, Put. -/
import Derived.Test.YtmonfkiakjaimaaRingM11
namespace Go.Proofs.Ytmonfkiakjaimaa
open Go.RowKit

/-- It lies at X, its list's row above lo. -/
structure RrR (w : World) (lo X : Nat) (lv : Value) (l : List Int) (p g d n : Nat) : Prop where
  blk : Blk 30 w X [lv, .int .i64 (p : Int), .int .i64 (g : Int), .int .i64 (d : Int), .int .i64 (n : Int)]
  row : w.ownsRow lo 3 1 lv l.length (l.map numV)
abbrev RrIs (w : World) (lo X : Nat) (lv : Value) (x : Rg) : Prop := RrR w lo X lv x.L x.p x.g x.d x.n
def RrBlk (X : Nat) (lv : Value) (k : Nat) : Prop := k = X ∨ lv.ownBlock = some k
def RrNew (m X : Nat) (lv lv' : Value) : Prop := ∀ k, RrBlk X lv' k → RrBlk X lv k ∨ m ≤ k
theorem RrNew.refl (m X : Nat) (lv : Value) : RrNew m X lv lv := fun _ h => .inl h
theorem RrNew.trans {m m' X : Nat} {a b c : Value} (h : RrNew m X a b) (k : RrNew m' X b c) (hm : m ≤ m') : RrNew m X a c := fun i hi => by
  rcases k i hi with e | e
  · exact h i e
  · exact .inr (by omega)
section
variable {w w' : World} {lo X p g d n : Nat} {lv : Value} {l : List Int}
theorem RrR.apart (h : RrR w lo X lv l p g d n) {k : Nat} (hk : lv.ownBlock = some k) : k ≠ X := fun e => blk_apart h.blk h.row hk (by decide) e.symm
theorem RrR.lt (h : RrR w lo X lv l p g d n) {k : Nat} (hk : RrBlk X lv k) : k < w.heap.size := by
  rcases hk with rfl | hk
  · exact h.blk.lt
  · exact (h.row.lt k hk).2
theorem RrR.only {T : Nat → Prop} (h : RrR w lo X lv l p g d n) (ho : Only T w w') (hT : ∀ k, RrBlk X lv k → ¬ T k) : RrR w' lo X lv l p g d n :=
  ⟨h.blk.only ho (hT X (.inl rfl)), own_only h.row ho (fun k hk => hT k (.inr hk))⟩
theorem RrR.below (h : RrR w lo X lv l p g d n) (hb : Below w.heap.size w w') : RrR w' lo X lv l p g d n := h.only (Only.of_below hb (fun _ => False)) (fun _ _ h => h)
theorem RrR.drewN (h : RrR w lo X lv l p g d n) (k : Nat) : RrR (w.drewN k) lo X lv l p g d n := h.below (below_draws (Below.refl _ _) k)
/-- Its cells. -/
theorem RrR.box (h : RrR w lo X lv l p g d n) : w.cell? ⟨X, 0, none⟩ = some lv ∧ w.cell? ⟨X, 1, none⟩ = some (.int .i64 (p : Int)) ∧ w.cell? ⟨X, 2, none⟩ = some (.int .i64 (g : Int)) ∧ w.cell? ⟨X, 3, none⟩ = some (.int .i64 (d : Int)) ∧ w.cell? ⟨X, 4, none⟩ = some (.int .i64 (n : Int)) ∧ ∀ k, w.frozen? ⟨X, k, none⟩ = false :=
  ⟨h.blk.at (o := 0) rfl, h.blk.at (o := 1) rfl, h.blk.at (o := 2) rfl, h.blk.at (o := 3) rfl, h.blk.at (o := 4) rfl, h.blk.frozen⟩
/-- Another row in the place of the list's. -/
theorem RrR.putRow (h : RrR w lo X lv l p g d n) {u : Value} {l' : List Int} (ho : Only (fun k => lv.ownBlock = some k) w w') (hu : w'.ownsRow lo 3 1 u l'.length (l'.map numV)) (hn : ∀ k, u.ownBlock = some k → lv.ownBlock = some k ∨ w.heap.size ≤ k) :
    (w'.cell? ⟨X, 0, none⟩ = some lv ∧ w'.frozen? ⟨X, 0, none⟩ = false) ∧ RrR (w'.setCell ⟨X, 0, none⟩ u) lo X u l' p g d n ∧ RrNew w.heap.size X lv u ∧ Only (RrBlk X lv) w (w'.setCell ⟨X, 0, none⟩ u) := by
  have b5 := h.blk.only ho (fun e => h.apart e rfl)
  have o6 := only_at w' X 0 u
  refine ⟨⟨b5.at (o := 0) rfl, b5.frozen _⟩, ⟨b5.set 0 u, own_only hu o6 (fun k hk e => blk_apart b5 hu hk (by decide) e.symm)⟩, ?_, ?_⟩
  · rintro k (rfl | hk)
    · exact .inl (.inl rfl)
    · exact (hn k hk).imp .inr id
  · exact (ho.mono (fun k _ hk => (.inr hk : RrBlk X lv k))).step o6 (fun i hi e => .inl e)
/-- Behind an append to it. -/
theorem RrR.grown {w5 : World} {ob : Obj} {g' cap' : Nat} {y : Int} (h : RrR w lo X lv l p g d n) (hgrow : (w.alloc ob).grownBy w5 lv.ownBlock) (hlie : lv.ownBlock = some g' ∨ g' = w.heap.size + 1)
    (hown : w5.ownsRow lo 3 1 (.slice (some ⟨g', 0, none⟩) (l.length + 1) cap') (l.length + 1) (l.map numV ++ [numV y])) :
    (w5.cell? ⟨X, 0, none⟩ = some lv ∧ w5.frozen? ⟨X, 0, none⟩ = false) ∧ RrR (w5.setCell ⟨X, 0, none⟩ (.slice (some ⟨g', 0, none⟩) (l.length + 1) cap')) lo X (.slice (some ⟨g', 0, none⟩) (l.length + 1) cap') (l ++ [y]) p g d n ∧
    RrNew w.heap.size X lv (.slice (some ⟨g', 0, none⟩) (l.length + 1) cap') ∧ Only (RrBlk X lv) w (w5.setCell ⟨X, 0, none⟩ (.slice (some ⟨g', 0, none⟩) (l.length + 1) cap')) := by
  refine h.putRow (((Only.refl (fun k => lv.ownBlock = some k) w).alloc ob).trans (grown_only hgrow)) ?_ (fun k hk => ?_)
  · rw [List.length_append, List.map_append]; exact hown
  · simp only [Value.ownBlock, Option.some.injEq] at hk
    subst hk
    exact hlie.imp id (fun e => by omega)
/-- Another number. -/
theorem RrR.putP (h : RrR w lo X lv l p g d n) (p' : Nat) {q : Int} (hq : q = (p' : Int)) : RrR (w.setCell ⟨X, 1, none⟩ (.int .i64 q)) lo X lv l p' g d n ∧ Only (RrBlk X lv) w (w.setCell ⟨X, 1, none⟩ (.int .i64 q)) := by
  subst hq
  have o6 := only_at w X 1 (.int .i64 (p' : Int))
  exact ⟨⟨h.blk.set 1 _, own_only h.row o6 (fun k hk e => h.apart hk e)⟩, o6.mono (fun k _ e => .inl e)⟩
theorem RrR.putG (h : RrR w lo X lv l p g d n) (p' : Nat) {q : Int} (hq : q = (p' : Int)) : RrR (w.setCell ⟨X, 2, none⟩ (.int .i64 q)) lo X lv l p p' d n ∧ Only (RrBlk X lv) w (w.setCell ⟨X, 2, none⟩ (.int .i64 q)) := by
  subst hq
  have o6 := only_at w X 2 (.int .i64 (p' : Int))
  exact ⟨⟨h.blk.set 2 _, own_only h.row o6 (fun k hk e => h.apart hk e)⟩, o6.mono (fun k _ e => .inl e)⟩
theorem RrR.putD (h : RrR w lo X lv l p g d n) (p' : Nat) {q : Int} (hq : q = (p' : Int)) : RrR (w.setCell ⟨X, 3, none⟩ (.int .i64 q)) lo X lv l p g p' n ∧ Only (RrBlk X lv) w (w.setCell ⟨X, 3, none⟩ (.int .i64 q)) := by
  subst hq
  have o6 := only_at w X 3 (.int .i64 (p' : Int))
  exact ⟨⟨h.blk.set 3 _, own_only h.row o6 (fun k hk e => h.apart hk e)⟩, o6.mono (fun k _ e => .inl e)⟩
end
theorem ref_New11 (k : Int) (w : World) : Calls Try.prog 9 #[.int .i64 k] w fun e w' => e = .returned (.pointer (some ⟨w.heap.size, 0, none⟩)) ∧ RrIs w' w.heap.size w.heap.size (.slice none 0 0) ⟨(min (max k 1) 1024).toNat, 0, 0, []⟩ ∧ Below w.heap.size w w' := by
  obtain ⟨m, hm⟩ : ∃ m, (min (max k 1) 1024).toNat = m := ⟨_, rfl⟩
  rw [hm]
  have F : RrIs (w.alloc (.cells #[.slice none 0 0, .int .i64 0, .int .i64 0, .int .i64 0, .int .i64 (m : Int)] 30)) w.heap.size w.heap.size (.slice none 0 0) ⟨m, 0, 0, []⟩ ∧ Below w.heap.size w (w.alloc (.cells #[.slice none 0 0, .int .i64 0, .int .i64 0, .int .i64 0, .int .i64 (m : Int)] 30)) :=
    ⟨⟨Blk.new (l := [.slice none 0 0, .int .i64 0, .int .i64 0, .int .i64 0, .int .i64 (m : Int)]), World.ownsRow_nil _ _ _ _⟩, (Below.refl _ _).alloc (Nat.le_refl _) _⟩
  have F' := Lib.hid F
  clear F
  obtain ⟨z, hz⟩ : ∃ z : Int, z = (m : Int) := ⟨_, rfl⟩
  rw [← hz] at F'
  have hc : (k < 1 ∧ z = 1) ∨ (1 < k ∧ k ≤ 1024 ∧ k = z) ∨ (1024 < k ∧ z = 1024) ∨ (k = 1 ∧ z = 1) := by omega
  clear hm hz
  rcases hc with ⟨h1, rfl⟩ | ⟨h1, h2, rfl⟩ | ⟨h1, rfl⟩ | ⟨rfl, rfl⟩
  all_goals
    go_enter Try.func9, Try.ntmps9
    go_wp2
    all_goals
      go_ret
      exact ⟨by first | rfl | simp, F'.out⟩
section
variable {w w' : World} {lo X : Nat} {lv : Value} {x : Rg}
theorem ref_Put_no11 (h : RrIs w lo X lv x) (hd : x.d ≤ 100000) (hl : x.L.length = x.n) (v : Int) : Calls Try.prog 12 #[.pointer (some ⟨X, 0, none⟩), .int .i64 v] w fun e w' =>
    e = .returned (.bool false) ∧ RrIs w' lo X lv (dropZ x) ∧ Only (RrBlk X lv) w w' := by
  obtain ⟨d0, d1, d2, d3, d4, f⟩ := h.box
  have f3 := f 3
  obtain ⟨a0, c0, e0⟩ := own_form h.row
  rw [e0, hl] at d0
  have Z : Hid (∀ k, RrIs ((w.drewN k).setCell ⟨X, 3, none⟩ (.int .i64 ((x.d : Int) + 1))) lo X lv (dropZ x) ∧ Only (RrBlk X lv) w ((w.drewN k).setCell ⟨X, 3, none⟩ (.int .i64 ((x.d : Int) + 1)))) := Lib.hid fun k => by
    obtain ⟨z1, z2⟩ := (h.drewN k).putD (x.d + 1) (q := (x.d : Int) + 1) (by omega)
    exact ⟨z1, ((Only.refl _ w).drewN k).trans z2⟩
  have hd2 : (x.d : Int) ≤ 100000 := by omega
  generalize x.d = d at *
  generalize x.n = n at *
  clear h f e0 hl
  go_enter Try.func12, Try.ntmps12
  go_upto_region 1 with fail
  go_quiet (fail)
  go_wp2
  go_ret
  exact ⟨rfl, Z.out _⟩
set_option maxHeartbeats 1000000 in
theorem ref_Put_yes11 (h : RrIs w lo X lv x) (hlo : lo ≤ w.heap.size) (hg : x.g ≤ 100000) (hl : x.L.length < x.n) (hn : x.n ≤ 1024) (v : Int) : Calls Try.prog 12 #[.pointer (some ⟨X, 0, none⟩), .int .i64 v] w fun e w' =>
    e = .returned (.bool true) ∧ (∃ lv', RrIs w' lo X lv' (putZ x v) ∧ RrNew w.heap.size X lv lv') ∧ Only (RrBlk X lv) w w' := by
  obtain ⟨i0, hi0, hz0, hz1, hz2⟩ := info_at infoInt
  obtain ⟨d0, d1, d2, d3, d4, f⟩ := h.box
  obtain ⟨a0, c0, e0⟩ := own_form h.row
  rw [e0] at d0
  have H := Lib.hid h
  have EV := Lib.hid e0
  have hpp : (putZ x v).p = x.p + 1 := by simp [Rg.p, putZ]; omega
  have HP := Lib.hid hpp
  have hp : (x.p : Int) ≤ 200000 := by unfold Rg.p; omega
  have hll : (x.L.length : Int) ≤ 1024 := by omega
  have hd : decide ((x.n : Int) ≤ (x.L.length : Int)) = false := by simp; omega
  have hd2 : decide (x.n ≤ x.L.length) = false := by simp; omega
  generalize hL : x.L = L at *
  generalize hm : L.length = m at *
  have hL' := Lib.hid hL
  have hm' := Lib.hid hm
  clear h f e0 hpp hL hm hl hn
  go_enter Try.func12, Try.ntmps12
  go_upto_region 1 with fail
  go_quiet (fail)
  have HD := Lib.hid (H.out.drewN nq)
  have hr1 : (w.drewN nq).ownsRow lo 3 1 (.slice a0 m c0) m (L.map numV) := by have := HD.out.row; rw [hL'.out, hm'.out, EV.out] at this; exact this
  go_upto_region 5 with (at_builtin; (refine wpList_append_lies _ rfl _ _ 22 rfl lo 3 i0 (.int .i64 0) 1 8 Try.underlying22 hi0 hz0 hz1 hz2 rfl (by decide) _ _ _ rfl (hr1.alloc _) ⟨w.heap.size, 0, none⟩ 1 1 [.int .i64 v] rfl rfl (cell_one_new _ _ _) (by simp [Value.oneCell']) (by decide) (by simp only [maxLen]; omega) (by first | omega | (simp; omega) | simp) (by first | omega | (simp; omega) | simp) (w.heap.size + 1) (by simp) ?_); intro g' cap' w9 hown' hgrow hlie hlt'; rw [← EV.out] at hgrow hlie; obtain ⟨⟨k9, f9⟩, hend⟩ := HD.out.grown (y := v) hgrow hlie (by rw [hL'.out, hm'.out]; exact hown'); rw [EV.out] at k9; rw [hL'.out, hm'.out] at hend; have HF := Lib.hid hend; clear hown' hgrow hlie hlt' hend)
  obtain ⟨h5, n5, o5⟩ := HF.out
  have c5 := h5.box.2.1
  have f5 := h5.box.2.2.2.2.2 1
  have Z := Lib.hid (h5.putP (x.p + 1) (q := (x.p : Int) + 1) (by omega))
  have O5 := Lib.hid (show RrNew w.heap.size X lv _ ∧ _ from And.intro n5 (((Only.refl (RrBlk X lv) w).drewN nq).trans o5))
  clear h5 n5 o5 k9 f9 d0 d1 d2 d3 d4 HF
  generalize w9.setCell ⟨X, 0, none⟩ (.slice (some ⟨g', 0, none⟩) (m + 1) cap') = w6 at *
  go_wp2
  go_ret
  obtain ⟨z1, z2⟩ := Z.out
  refine ⟨rfl, ⟨_, ?_, O5.out.1⟩, O5.out.2.step z2 (fun i hi e => (O5.out.1 i e).resolve_right (by omega))⟩
  show RrR _ _ _ _ (x.L ++ [v]) (putZ x v).p x.g x.d x.n
  rw [HP.out, hL'.out]
  exact z1
end

end Go.Proofs.Ytmonfkiakjaimaa
