/- Layer 8 (package lin): the map of dead points, and what find's answer is. -/
import Derived.Test.YthngehpmoiojfaaTally8
namespace Go.Proofs.Ythngehpmoiojfaa
open Go.RowKit Go.Maps

def resF (L : List CallZ) (D : List Bool) (s : StZ) : Option (List Int) := (conts smallM L (nU L D) D s).head?
def zeroF (_ : List Bool) (_ : StZ) : Nat := 0
theorem sum_zero {L : List CallZ} {D : List Bool} {s : StZ} : ∀ P : List Int, (P.map (stepC L D s zeroF)).sum = 0
  | [] => rfl
  | p :: P => by
    simp only [List.map_cons, List.sum_cons]
    rw [sum_zero P]
    unfold stepC zeroF
    simp
theorem find_cong {f g : Int → Option (List Int)} : ∀ {P : List Int}, (∀ y ∈ P, f y = g y) → P.findSome? f = P.findSome? g
  | [], _ => rfl
  | p :: P, h => by
    rw [List.findSome?_cons, List.findSome?_cons, h p (by simp), find_cong (P := P) (fun y hy => h y (by simp [hy]))]
theorem unlike_in {L : List CallZ} {D : List Bool} {y : Int} (hy : y ∈ unlikeZ L (minZ L D)) : y ∈ minZ L D := by
  rcases unlike_mem L _ _ y hy with h | h
  · cases h
  · exact h
theorem find_is {L : List CallZ} {D : List Bool} {n : Nat} {s : StZ} (hD : L.length ≤ D.length) (hn : nU L D = n + 1) : (unlikeZ L (minZ L D)).findSome? (stepR L D s (resF L)) = resF L D s := by
  unfold resF
  rw [hn, ← find_unlike smallM L hD hn]
  refine find_cong fun y hy => ?_
  unfold stepR contAt
  simp only [nU_next hD hn (unlike_in hy)]
theorem unlike_sub (L : List CallZ) : ∀ (P K : List Int), (P.foldl (unlikeStep L) K).Sublist (K ++ P)
  | [], K => by simp
  | p :: P, K => by
    rw [List.foldl_cons]
    refine (unlike_sub L P _).trans ?_
    unfold unlikeStep
    split
    · exact (List.Sublist.refl K).append (List.sublist_cons_self p P)
    · rw [List.append_assoc]; exact List.Sublist.refl _
theorem sub_sum {f : Int → Nat} : ∀ {P Q : List Int}, P.Sublist Q → (P.map f).sum ≤ (Q.map f).sum
  | _, _, .slnil => Nat.le_refl _
  | _, _, .cons a h => by have := sub_sum (f := f) h; simp only [List.map_cons, List.sum_cons]; omega
  | _, _, .cons_cons a h => by have := sub_sum (f := f) h; simp only [List.map_cons, List.sum_cons]; omega
theorem unlike_cost (L : List CallZ) (n : Nat) (D : List Bool) : ((unlikeZ L (minZ L D)).map (stepK L n D)).sum + 1 ≤ costZ L (n + 1) D := by
  have := sub_sum (f := stepK L n D) (unlike_sub L (minZ L D) [])
  rw [cost_sum]
  rw [List.nil_append] at this
  unfold unlikeZ
  omega
theorem unlike_len8 (L : List CallZ) (D : List Bool) : (unlikeZ L (minZ L D)).length ≤ L.length := by
  have := (unlike_sub L (minZ L D) []).length_le
  have := min_len L D
  rw [List.nil_append] at *
  unfold unlikeZ
  omega
theorem pt_inj {D D' : List Bool} {k k' : ByteArray} (hl : D.length = D'.length) (h : ptA D k = ptA D' k') : D = D' ∧ k = k' := by
  injection h with h
  have h := congrArg Array.toList h
  simp only [ptL] at h
  obtain ⟨h1, h2⟩ := List.append_inj h (by simpa using hl)
  refine ⟨?_, by simpa using h2⟩
  exact List.map_inj_right (fun a b e => by injection e) |>.1 h1
theorem zero_bool (w : World) : (zeroValue 4).run Try.prog w = .ok (.bool false) w := by rfl
section
variable {K : Nat → Prop} {w : World} {B M : Nat} {s0 s : StZ} {L : List CallZ} {cv : Value} {x : Se}
theorem SeIs.deadAt (h : SeIs K w B s0 L cv (.map (some M)) x) : ∃ F, ¬ K M ∧ MapV Try.prog 74 w M x.n F ∧ ∀ D s v, D.length = 24 → F (ptA D (keyZ s)) = some v → v = .bool true ∧ conts smallM L (nU L D) D s = [] := by
  rcases h.dead with e | ⟨M', F, e, hk, hm, hs⟩
  · cases e
  · cases e; exact ⟨F, hk, hm, hs⟩
theorem SeIs.look (h : SeIs K w B s0 L cv (.map (some M)) x) (hk : (keyZ s).size ≤ maxLen) : ∃ d : Bool, (Instr.lookup 62 (.map (some M)) (ptA x.D (keyZ s)) false).run Try.prog w = .ok (.bool d) w ∧ (d = true → conts smallM L (nU L x.D) x.D s = []) := by
  obtain ⟨F, _, hm, hs⟩ := h.deadAt
  obtain ⟨l, hl⟩ := key_point h.dl hk
  have hr := hm.look point_law Try.underlying62 (zero_bool w) hl
  cases hF : F (ptA x.D (keyZ s)) with
  | none => rw [hF] at hr; exact ⟨false, hr, fun e => by cases e⟩
  | some v =>
    obtain ⟨rfl, hc⟩ := hs x.D s v h.dl hF
    rw [hF] at hr
    exact ⟨true, hr, fun _ => hc⟩
theorem SeIs.bury (h : SeIs K w B s0 L cv (.map (some M)) x) (hk : (keyZ s).size ≤ maxLen) (hn : x.n < maxLen) (hc : conts smallM L (nU L x.D) x.D s = []) : ∃ W', (Instr.mapUpdate 62 (.map (some M)) (ptA x.D (keyZ s)) (.bool true)).run Try.prog w = .ok () W' ∧
    SeIs K W' B s0 L cv (.map (some M)) ⟨x.ov, x.D, x.O, x.fnd, x.n + 1⟩ ∧ Only (· = M) w W' ∧ ¬ K M := by
  obtain ⟨F, hkM, hm, hs⟩ := h.deadAt
  obtain ⟨l, hl⟩ := key_point h.dl hk
  obtain ⟨W', hr, hm', ho⟩ := hm.put point_law Try.underlying62 hn hl (.bool true)
  refine ⟨W', hr, ⟨h.blk.only ho (fun e => hm.ne_blk h.blk e.symm), h.dl, h.calls.only ho (fun k e => e ▸ hkM), own_only h.own ho (fun g hg e => h.mapNe rfl g hg e.symm), .inr ⟨M, _, rfl, hkM, hm', fun D s' v hD hv => ?_⟩, h.kb, h.ko, fun k hk => Nat.lt_of_lt_of_le (h.kl k hk) ho.size⟩, ho, hkM⟩
  unfold updV at hv
  split at hv
  · rename_i e
    obtain ⟨rfl, e2⟩ := pt_inj (hD.trans h.dl.symm) e
    obtain rfl := key_inj e2
    cases hv
    exact ⟨rfl, hc⟩
  · exact hs D s' v hD hv
end
theorem build_point {D : List Bool} (hD : D.length = 24) (k : ByteArray) (w : World) : (Instr.build 74 #[(0, .agg (D.map Value.bool).toArray), (1, .string k)]).run Try.prog w = .ok (ptA D k) w := by
  match D, hD with
  | [b0, b1, b2, b3, b4, b5, b6, b7, b8, b9, b10, b11, b12, b13, b14, b15, b16, b17, b18, b19, b20, b21, b22, b23], _ => exact run_build w 74 _ _ (by kernel_rfl)
theorem pt_size {D : List Bool} (hD : D.length = 24) (k : ByteArray) : (ptL D k).length = 25 := by simp [ptL, hD]
theorem pt_one (D : List Bool) (k : ByteArray) : (ptL D k).toArray.all (·.oneCell') = true := by
  simp only [List.all_toArray, List.all_eq_true]
  intro v hv
  simp only [ptL, List.mem_append, List.mem_map, List.mem_singleton] at hv
  rcases hv with ⟨b, _, rfl⟩ | rfl <;> rfl
theorem blk_wrote {w w' : World} {X : Nat} {t : TypeId} {l l' : List Value} (hl : l.length = l'.length) (h : Blk t w X l) (e : w.setCells X 0 l' = w') : Blk t w' X l' ∧ Only (· = X) w w' := by
  refine ⟨?_, e ▸ only_setCells (S := (· = X)) rfl _ _ _ _ (Only.refl _ _)⟩
  rw [← e]
  have := Blk.setCells l' 0 _ _ h
  have h2 := setsL_mid l' [] l [] hl
  simp only [List.nil_append, List.append_nil, List.length_nil] at h2
  rwa [h2] at this

theorem yieldsIf_build {P : Program} {ops : Array Oper} {S : World → Prop} {op : Oper} {a : Act} (hw : Region.wanted op (yielded ops a.tmps) = true) (t : TypeId) (x y : Operand) (ho : op.op = .build t #[(0, x), (1, y)]) (u v r : Value) (hx : a.eval x = u) (hy : a.eval y = v)
    (hr : ∀ w, (Instr.build t #[(0, u), (1, v)]).run P w = .ok r w) : YieldsIf P ops S op r a :=
  .inl ⟨hw, fun w _ => by
    unfold execOp
    simp [ho, hx, hy, hr]⟩
theorem yieldsIf_lookup {P : Program} {ops : Array Oper} {S : World → Prop} {op : Oper} {a : Act} (hw : Region.wanted op (yielded ops a.tmps) = true) (t : TypeId) (x y : Operand) (ho : op.op = .lookup t x y false) (u v r : Value) (hx : a.eval x = u) (hy : a.eval y = v)
    (hr : ∀ w, S w → (Instr.lookup t u v false).run P w = .ok r w) : YieldsIf P ops S op r a :=
  .inl ⟨hw, fun w h => by
    unfold execOp
    simp [ho, hx, hy, hr w h]⟩

end Go.Proofs.Ythngehpmoiojfaa
