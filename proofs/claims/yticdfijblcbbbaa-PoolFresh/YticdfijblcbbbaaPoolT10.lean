/- Layer 10 (package pool, of strings): Take, Give, Get, Stamp, Live. -/
import Derived.Test.YticdfijblcbbbaaPoolS10
namespace Go.Proofs.Yticdfijblcbbbaa
open Go.RowKit

section
variable {w w' : World} {lo B : Nat} {pv fv : Value} {x : Po ByteArray}
/-- Other free ones. -/
theorem PsIs.storeF (h : PsIs w lo B pv fv x) {fv' : Value} {F' : List Int} (hfr : w.ownsRow lo 3 1 fv' F'.length (F'.map numV)) (hf : ∀ i ∈ F', 1 ≤ i ∧ i ≤ (x.M.length : Int)) :
    PsIs (w.setCell ⟨B, 2, none⟩ fv') lo B pv fv' ⟨x.lim, x.M, F'⟩ ∧ Only (· = B) w (w.setCell ⟨B, 2, none⟩ fv') := by
  have ho := only_at w B 2 fv'
  exact ⟨⟨h.blk.set 2 fv', own_only h.row ho (fun k hk => h.apartP hk), own_only hfr ho (fun k hk e => blk_apart h.blk hfr hk (by decide) e.symm), hf, h.lims, h.ml⟩, ho⟩
/-- A place is taken. -/
theorem PsIs.taken (h : PsIs w lo B pv fv x) {i g cap : Nat} {p : Plc ByteArray} (hp : x.M[i]? = some p) (hg : pv = .slice (some ⟨g, 0, none⟩) x.M.length cap) (v : ByteArray) :
    PsIs ((w.setCell ⟨g, i * 3, none⟩ (Value.string v)).setCell ⟨g, i * 3 + 2, none⟩ (.bool true)) lo B pv fv ⟨x.lim, x.M.set i ⟨v, p.st, true⟩, x.F⟩ ∧ Only (· = g) w ((w.setCell ⟨g, i * 3, none⟩ (Value.string v)).setCell ⟨g, i * 3 + 2, none⟩ (.bool true)) := by
  have ho : Only (· = g) w ((w.setCell ⟨g, i * 3, none⟩ (Value.string v)).setCell ⟨g, i * 3 + 2, none⟩ (.bool true)) := (only_at _ _ _ _).trans (only_at _ _ _ _)
  have hb : pv.ownBlock = some g := by rw [hg]; rfl
  refine ⟨⟨h.blk.only ho (fun e => h.apartP hb e.symm), ?_, own_only h.fr ho (fun k hk e => h.apartPF (e ▸ hb) hk), fun j hj => ?_, h.lims, by simpa using h.ml⟩, ho⟩
  · have h1 := own_set (k := i * 3 + 2) (own_set (k := i * 3) h.row hb (Value.string v)) hb (.bool true)
    rw [plc_take hp] at h1
    simpa using h1
  · simpa using h.fok j hj
/-- A place is given back. -/
theorem PsIs.given (h : PsIs w lo B pv fv x) {i g cap : Nat} {p : Plc ByteArray} (hp : x.M[i]? = some p) (hg : pv = .slice (some ⟨g, 0, none⟩) x.M.length cap) :
    PsIs (w.setCells g (i * 3) [(.string ByteArray.empty), .int .i64 ((p.st : Int) + 1), .bool false]) lo B pv fv ⟨x.lim, x.M.set i ⟨p.x, p.st + 1, false⟩, x.F⟩ ∧ Only (· = g) w (w.setCells g (i * 3) [(.string ByteArray.empty), .int .i64 ((p.st : Int) + 1), .bool false]) := by
  have ho : Only (· = g) w (w.setCells g (i * 3) [(.string ByteArray.empty), .int .i64 ((p.st : Int) + 1), .bool false]) := ((only_at _ _ _ _).trans (only_at _ _ _ _)).trans (only_at _ _ _ _)
  have hb : pv.ownBlock = some g := by rw [hg]; rfl
  refine ⟨⟨h.blk.only ho (fun e => h.apartP hb e.symm), ?_, own_only h.fr ho (fun k hk e => h.apartPF (e ▸ hb) hk), fun j hj => ?_, h.lims, by simpa using h.ml⟩, ho⟩
  · have h1 := own_set (k := i * 3 + 1 + 1) (own_set (k := i * 3 + 1) (own_set (k := i * 3) h.row hb (.string ByteArray.empty)) hb (.int .i64 ((p.st : Int) + 1))) hb (.bool false)
    rw [plc_give hp] at h1
    simpa [World.setCells] using h1
  · simpa using h.fok j hj
/-- Behind an append to the places. -/
theorem PsIs.grownP {w5 : World} {ob : Obj} {g' cap' : Nat} (h : PsIs w lo B pv fv x) (hF : x.F = []) (hl : x.M.length < x.lim) (hgrow : (w.alloc ob).grownBy w5 pv.ownBlock) (hlie : pv.ownBlock = some g' ∨ g' = w.heap.size + 1) (d : ByteArray)
    (hown : w5.ownsRow lo 69 3 (.slice (some ⟨g', 0, none⟩) (x.M.length + 1) cap') (x.M.length + 1) (x.M.flatMap psV ++ [(.string ByteArray.empty), .int .i64 0, .bool false])) :
    (w5.cell? ⟨B, 1, none⟩ = some pv ∧ w5.frozen? ⟨B, 1, none⟩ = false) ∧ (∃ pv', PsIs (w5.setCell ⟨B, 1, none⟩ (.slice (some ⟨g', 0, none⟩) (x.M.length + 1) cap')) lo B pv' fv ⟨x.lim, x.M ++ [⟨d, 0, false⟩], []⟩ ∧ PsNew w.heap.size B pv fv pv' fv) ∧
    Only (PsBlk B pv fv) w (w5.setCell ⟨B, 1, none⟩ (.slice (some ⟨g', 0, none⟩) (x.M.length + 1) cap')) := by
  have ha : Only (fun _ => False) w (w.alloc ob) := (Only.refl _ _).alloc ob
  have h1 := h.only ha (fun _ _ => id)
  have ho := grown_only hgrow
  have b5 := h1.blk.only ho (fun e => h1.apartP e rfl)
  have f5 := own_only h1.fr ho (fun k hk e => h1.apartPF e hk)
  have o6 := only_at w5 B 1 (.slice (some ⟨g', 0, none⟩) (x.M.length + 1) cap')
  refine ⟨⟨b5.at (o := 1) rfl, b5.frozen _⟩, ⟨_, ⟨b5.set 1 _, ?_, ?_, fun i hi => by simp at hi, h.lims, by simp; omega⟩, ?_⟩, ?_⟩
  · have := own_only hown o6 (fun k hk e => blk_apart b5 hown hk (by decide) e.symm)
    simpa [List.flatMap_append, plcV] using this
  · have := own_only f5 o6 (fun k hk e => h1.apartF hk e)
    simpa [hF] using this
  · rintro k (rfl | hk | hk)
    · exact .inl (.inl rfl)
    · simp only [Value.ownBlock, Option.some.injEq] at hk
      subst hk
      rcases hlie with e | e
      · exact .inl (.inr (.inl e))
      · exact .inr (by omega)
    · exact .inl (.inr (.inr hk))
  · exact (((Only.refl (PsBlk B pv fv) w).alloc ob).step ho (fun i hi e => .inr (.inl e))).step o6 (fun i hi e => .inl e)
theorem infoPlcPs : (Try.prog.info? 69).map (fun i => (i.zero, i.size, i.bytes)) = some (some (.agg #[(.string ByteArray.empty), .int .i64 0, .bool false]), 3, 32) := by kernel_rfl
/-- The place that was given back last. -/
theorem ps_vacant_free (h : PsIs w lo B pv fv x) {F : List Int} {j : Int} (hF : x.F = F ++ [j]) (hl : F.length ≤ 1000000) : Calls Try.prog 26 #[.pointer (some ⟨B, 0, none⟩)] w fun e w' => e = .returned (.int .i64 j) ∧
    (∃ fv', PsIs w' lo B pv fv' ⟨x.lim, x.M, F⟩ ∧ fv'.ownBlock = fv.ownBlock) ∧ Only (· = B) w w' := by
  have hfr := h.fr
  rw [hF] at hfr
  obtain ⟨g, cap, rfl, hcap, c4, r2⟩ := fr_init hfr
  have c2 := h.blk.at (o := 2) rfl
  have f2 := h.blk.frozen 2
  have ST := Lib.hid (h.storeF r2 (fun i hi => h.fok i (by rw [hF]; simp [hi])))
  generalize F.length = n at *
  have hn : decide ((0 : Int) ≤ (n : Int)) = true := by simp
  clear h hfr r2 hF
  go_enter Try.func26, Try.ntmps26
  go_wp2
  go_ret
  exact ⟨rfl, ⟨_, ST.out.1, rfl⟩, ST.out.2⟩
theorem ps_vacant_full (h : PsIs w lo B pv fv x) (hF : x.F = []) (hl : x.lim ≤ x.M.length) : Calls Try.prog 26 #[.pointer (some ⟨B, 0, none⟩)] w fun e w' => e = .returned (.int .i64 0) ∧ ∃ n, w' = w.drewN n := by
  have c0 := h.blk.at (o := 0) rfl
  have c1 := h.blk.at (o := 1) rfl
  have c2 := h.blk.at (o := 2) rfl
  obtain ⟨a, c, rfl⟩ := own_form h.row
  obtain ⟨a', c', rfl⟩ := own_form h.fr
  rw [hF] at c2
  simp only [List.length_nil] at c2
  have hd : decide ((x.lim : Int) ≤ (x.M.length : Int)) = true := by simpa using hl
  have hd2 : decide (x.lim ≤ x.M.length) = true := by simpa using hl
  generalize x.M.length = n at *
  generalize x.lim = m at *
  clear h hF hl
  go_enter Try.func26, Try.ntmps26
  go_wp2
  go_quiet (fail)
  go_wp2
  go_ret
  exact ⟨rfl, _, rfl⟩
set_option maxHeartbeats 1000000 in
theorem ps_vacant_new (h : PsIs w lo B pv fv x) (hlo : lo ≤ w.heap.size) (hF : x.F = []) (hl : x.M.length < x.lim) (d : ByteArray) : Calls Try.prog 26 #[.pointer (some ⟨B, 0, none⟩)] w fun e w' => e = .returned (.int .i64 ((x.M.length : Int) + 1)) ∧
    (∃ pv', PsIs w' lo B pv' fv ⟨x.lim, x.M ++ [⟨d, 0, false⟩], []⟩ ∧ PsNew w.heap.size B pv fv pv' fv) ∧ Only (PsBlk B pv fv) w w' := by
  obtain ⟨i0, hi, hz0, hz1, hz2⟩ := info_at infoPlcPs
  have c0 := h.blk.at (o := 0) rfl
  have c1 := h.blk.at (o := 1) rfl
  have c2 := h.blk.at (o := 2) rfl
  have hr := h.row
  obtain ⟨a', c', e'⟩ := own_form h.fr
  rw [e', hF] at c2
  simp only [List.length_nil] at c2
  have hm := h.lims
  have hd : decide ((x.lim : Int) ≤ (x.M.length : Int)) = false := by simp; omega
  have hd2 : decide (x.lim ≤ x.M.length) = false := by simp; omega
  have HW := Lib.hid (And.intro hF hl)
  have H1 := Lib.hid h.drewN
  obtain ⟨oa, oc, oe⟩ := own_form hr
  have OE := Lib.hid oe
  rw [oe] at c1
  have hn : (x.M.length : Int) ≤ 65536 := by omega
  clear h hF hl e' oe hr
  go_enter Try.func26, Try.ntmps26
  go_upto_region 8 with fail
  go_quiet (fail)
  have hr : ∀ n, (w.drewN n).ownsRow lo 69 3 (.slice oa x.M.length oc) x.M.length (x.M.flatMap psV) := fun n => OE.out ▸ (H1.out n).row
  go_wp2_with (at_builtin; (refine wpList_append_lies _ rfl _ _ 63 rfl lo 69 i0 (.agg #[(.string ByteArray.empty), .int .i64 0, .bool false]) 3 32 Try.underlying63 hi hz0 hz1 hz2 rfl (by decide) _ _ _ rfl ((hr _).alloc _) ⟨w.heap.size, 0, none⟩ 1 1 [(.string ByteArray.empty), .int .i64 0, .bool false] rfl rfl (World.news_of_block (Blk.new (l := [(.string ByteArray.empty), .int .i64 0, .bool false]))) (by simp [Value.oneCell']) (by decide) (by simp only [maxLen]; omega) (by omega) (by simp; omega) (w.heap.size + 1) (by simp) ?_); intro g5 cap5 w5 hown hgrow hlie hlt5; rw [← OE.out] at hgrow hlie; obtain ⟨⟨k1, f1⟩, hend⟩ := (H1.out _).grownP HW.out.1 HW.out.2 hgrow hlie d hown; rw [OE.out] at k1; have HE := Lib.hid hend; clear hown hgrow hlie hlt5 hend)
  go_ret
  obtain ⟨h5, o5⟩ := HE.out
  exact ⟨by simp, h5, (Only.refl _ w).drewN _ |>.trans o5⟩
end

end Go.Proofs.Yticdfijblcbbbaa
