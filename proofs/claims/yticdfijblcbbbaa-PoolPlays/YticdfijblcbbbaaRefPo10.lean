/- Layer 10: the document's pool (bellmanref10) in memory. -/
import Derived.Test.YticdfijblcbbbaaPoolM10
import Derived.Test.YticdfijblcbbbaaAppSrc
namespace Go.Proofs.Yticdfijblcbbbaa
open Go.RowKit

theorem infoBool : (Try.prog.info? 4).map (fun i => (i.zero, i.size, i.bytes)) = some (some (.bool false), 1, 1) := by kernel_rfl
def rpV (v : Nat → Value) (tv : Value) (lim : Nat) : List Value := [v 0, v 1, tv, v 2, .int .i64 (lim : Int)]
def rpO (j : Nat) : Nat := if j = 2 then 3 else j
theorem rpV_at {j lim : Nat} {v : Nat → Value} {tv : Value} (hj : j < 3) : (rpV v tv lim)[rpO j]? = some (v j) := by
  match j, hj with
  | 0, _ => rfl
  | 1, _ => rfl
  | 2, _ => rfl
theorem rpV_set {j lim : Nat} {v : Nat → Value} {tv : Value} (hj : j < 3) (u : Value) : (rpV v tv lim).set (rpO j) u = rpV (upd v j u) tv lim := by
  match j, hj with
  | 0, _ => rfl
  | 1, _ => rfl
  | 2, _ => rfl
/-- It lies at X, its rows above lo. -/
structure RpR (w : World) (lo X : Nat) (v : Nat → Value) (tv : Value) (q : Nat → List Int) (T : List Bool) (lim : Nat) : Prop where
  blk : Blk 45 w X (rpV v tv lim)
  own : Own3 w lo v q
  tk : w.ownsRow lo 4 1 tv T.length (T.map Value.bool)
def RpBlk (X : Nat) (v : Nat → Value) (tv : Value) (k : Nat) : Prop := k = X ∨ InV v k ∨ tv.ownBlock = some k
def RpNew (n X : Nat) (v : Nat → Value) (tv : Value) (v' : Nat → Value) (tv' : Value) : Prop := ∀ k, RpBlk X v' tv' k → RpBlk X v tv k ∨ n ≤ k
theorem RpNew.refl (n X : Nat) (v : Nat → Value) (tv : Value) : RpNew n X v tv v tv := fun _ h => .inl h
theorem RpNew.trans {n m X : Nat} {v v' v'' : Nat → Value} {tv tv' tv'' : Value} (h : RpNew n X v tv v' tv') (k : RpNew m X v' tv' v'' tv'') (hm : n ≤ m) : RpNew n X v tv v'' tv'' := fun i hi => by
  rcases k i hi with e | e
  · exact h i e
  · exact .inr (by omega)
section
variable {w w' : World} {lo X lim : Nat} {v : Nat → Value} {tv : Value} {q : Nat → List Int} {T : List Bool}
theorem RpR.apart (h : RpR w lo X v tv q T lim) {k : Nat} (hk : InV v k) : k ≠ X := by
  obtain ⟨j, hj, e⟩ := hk
  exact fun e' => blk_apart h.blk (h.own.own j hj) e (by decide) e'.symm
theorem RpR.apartT (h : RpR w lo X v tv q T lim) {k : Nat} (hk : tv.ownBlock = some k) : k ≠ X := fun e => blk_apart h.blk h.tk hk (by decide) e.symm
theorem RpR.apartQ (h : RpR w lo X v tv q T lim) {k : Nat} (hk : InV v k) (ht : tv.ownBlock = some k) : False := by
  obtain ⟨j, hj, e⟩ := hk
  obtain ⟨l, _, _, _, hb, _⟩ := own_heap h.tk ht
  exact blk_apart hb (h.own.own j hj) e (by decide) rfl
theorem RpR.lt (h : RpR w lo X v tv q T lim) {k : Nat} (hk : RpBlk X v tv k) : k < w.heap.size := by
  rcases hk with rfl | hk | hk
  · exact h.blk.lt
  · exact (h.own.lt hk).2
  · exact (h.tk.lt k hk).2
theorem RpR.only {S : Nat → Prop} (h : RpR w lo X v tv q T lim) (ho : Only S w w') (hS : ∀ k, RpBlk X v tv k → ¬ S k) : RpR w' lo X v tv q T lim :=
  ⟨h.blk.only ho (hS X (.inl rfl)), h.own.only ho (fun k hk => hS k (.inr (.inl hk))), own_only h.tk ho (fun k hk => hS k (.inr (.inr hk)))⟩
theorem RpR.below (h : RpR w lo X v tv q T lim) (hb : Below w.heap.size w w') : RpR w' lo X v tv q T lim := h.only (Only.of_below hb (fun _ => False)) (fun _ _ h => h)
theorem RpR.drewN (h : RpR w lo X v tv q T lim) (n : Nat) : RpR (w.drewN n) lo X v tv q T lim := h.below (below_draws (Below.refl _ _) n)
/-- A number in one of its rows. -/
theorem RpR.at (h : RpR w lo X v tv q T lim) {j i : Nat} (hj : j < 3) (hi : i < (q j).length) : ∃ g cap, v j = .slice (some ⟨g, 0, none⟩) (q j).length cap ∧ w.cell? ⟨g, i, none⟩ = some (numV (q j)[i]) ∧ w.frozen? ⟨g, i, none⟩ = false ∧
    ∀ u : Int, RpR (w.setCell ⟨g, i, none⟩ (numV u)) lo X v tv (upd q j ((q j).set i u)) T lim ∧ Only (RpBlk X v tv) w (w.setCell ⟨g, i, none⟩ (numV u)) := by
  have h0 := h.own.own j hj
  have hg : ∃ g, (v j).ownBlock = some g := by
    rcases h0.2 with ⟨_, e⟩ | ⟨g, cap, cur, e, _⟩
    · omega
    · exact ⟨g, by rw [e]; rfl⟩
  obtain ⟨g, hg⟩ := hg
  obtain ⟨l, cap, e, _, hb, ht, hle⟩ := own_heap h0 hg
  refine ⟨g, cap, e, ?_, hb.frozen i, fun u => ?_⟩
  · refine hb.at ?_
    have h1 : ((q j).map numV)[i]? = some (numV (q j)[i]) := by rw [List.getElem?_map, List.getElem?_eq_getElem hi]; rfl
    rw [← ht, List.getElem?_take] at h1
    split at h1
    · exact h1
    · cases h1
  · have hin : InV v g := ⟨j, hj, hg⟩
    have ho : Only (· = g) w (w.setCell ⟨g, i, none⟩ (numV u)) := only_at _ _ _ _
    refine ⟨⟨h.blk.only ho (fun e => h.apart hin e.symm), ?_, own_only h.tk ho (fun k hk e => h.apartQ (e ▸ hin) hk)⟩, ho.mono (fun k _ e => .inr (.inl (e ▸ hin)))⟩
    have h2 := own_set (k := i) h0 hg (numV u)
    have e0 : upd v j (v j) = v := by funext k; unfold upd; split <;> simp_all
    have := h.own.upd (j := j) (u := v j) (l := (q j).set i u) (ho.mono (fun k _ e => e ▸ hg)) hj (by rw [List.length_set, List.map_set]; exact h2) (fun g' hg' => .inl hg')
    rwa [e0] at this
/-- Is a place taken? -/
theorem RpR.atT (h : RpR w lo X v tv q T lim) {i : Nat} (hi : i < T.length) : ∃ g cap, tv = .slice (some ⟨g, 0, none⟩) T.length cap ∧ w.cell? ⟨g, i, none⟩ = some (.bool T[i]) ∧ w.frozen? ⟨g, i, none⟩ = false ∧
    ∀ u : Bool, RpR (w.setCell ⟨g, i, none⟩ (.bool u)) lo X v tv q (T.set i u) lim ∧ Only (RpBlk X v tv) w (w.setCell ⟨g, i, none⟩ (.bool u)) := by
  have hg : ∃ g, tv.ownBlock = some g := by
    rcases h.tk.2 with ⟨_, e⟩ | ⟨g, cap, cur, e, _⟩
    · omega
    · exact ⟨g, by rw [e]; rfl⟩
  obtain ⟨g, hg⟩ := hg
  obtain ⟨l, cap, e, _, hb, ht, hle⟩ := own_heap h.tk hg
  refine ⟨g, cap, e, ?_, hb.frozen i, fun u => ?_⟩
  · refine hb.at ?_
    have h1 : (T.map Value.bool)[i]? = some (.bool T[i]) := by rw [List.getElem?_map, List.getElem?_eq_getElem hi]; rfl
    rw [← ht, List.getElem?_take] at h1
    split at h1
    · exact h1
    · cases h1
  · have ho : Only (· = g) w (w.setCell ⟨g, i, none⟩ (.bool u)) := only_at _ _ _ _
    refine ⟨⟨h.blk.only ho (fun e => h.apartT hg e.symm), h.own.only ho (fun k hk e => h.apartQ hk (e ▸ hg)), ?_⟩, ho.mono (fun k _ e => .inr (.inr (e ▸ hg)))⟩
    have h2 := own_set (k := i) h.tk hg (.bool u)
    rw [List.length_set, List.map_set]
    exact h2
/-- Another row in the place of one of them. -/
theorem RpR.row (h : RpR w lo X v tv q T lim) {j : Nat} {u : Value} {l : List Int} (ho : Only (fun k => (v j).ownBlock = some k) w w') (hj : j < 3) (hu : w'.ownsRow lo 3 1 u l.length (l.map numV)) (hn : ∀ g, u.ownBlock = some g → (v j).ownBlock = some g ∨ w.heap.size ≤ g) :
    (w'.cell? ⟨X, rpO j, none⟩ = some (v j) ∧ w'.frozen? ⟨X, rpO j, none⟩ = false) ∧ (RpR (w'.setCell ⟨X, rpO j, none⟩ u) lo X (upd v j u) tv (upd q j l) T lim ∧ RpNew w.heap.size X v tv (upd v j u) tv) ∧ Only (RpBlk X v tv) w (w'.setCell ⟨X, rpO j, none⟩ u) := by
  have hin : ∀ k, (v j).ownBlock = some k → InV v k := fun k hk => ⟨j, hj, hk⟩
  have b5 := h.blk.only ho (fun e => h.apart (hin X e) rfl)
  have o5 := h.own.upd ho hj hu hn
  have t5 := own_only h.tk ho (fun k hk e => h.apartQ (hin k e) hk)
  have o6 := only_at w' X (rpO j) u
  refine ⟨⟨b5.at (rpV_at hj), b5.frozen _⟩, ⟨⟨?_, o5.only o6 ?_, own_only t5 o6 (fun k hk e => h.apartT hk e)⟩, ?_⟩, ?_⟩
  · have := b5.set (rpO j) u
    rw [rpV_set hj] at this
    exact this
  · rintro k ⟨i, hi, e⟩ rfl
    exact blk_apart b5 (o5.own i hi) e (by decide) rfl
  · rintro k (rfl | hk | hk)
    · exact .inl (.inl rfl)
    · exact (VNew.upd (n := w.heap.size) hj hn k hk).imp (fun e => .inr (.inl e)) id
    · exact .inl (.inr (.inr hk))
  · exact (ho.mono (fun k _ hk => (.inr (.inl (hin k hk)) : RpBlk X v tv k))).step o6 (fun i hi e => .inl e)
/-- Behind an append to one of its rows. -/
theorem RpR.grown {w5 : World} {ob : Obj} {g' cap' j : Nat} {y : Int} (h : RpR w lo X v tv q T lim) (hj : j < 3) (hgrow : (w.alloc ob).grownBy w5 (v j).ownBlock) (hlie : (v j).ownBlock = some g' ∨ g' = w.heap.size + 1)
    (hown : w5.ownsRow lo 3 1 (.slice (some ⟨g', 0, none⟩) ((q j).length + 1) cap') ((q j).length + 1) ((q j).map numV ++ [numV y])) :
    (w5.cell? ⟨X, rpO j, none⟩ = some (v j) ∧ w5.frozen? ⟨X, rpO j, none⟩ = false) ∧ (RpR (w5.setCell ⟨X, rpO j, none⟩ (.slice (some ⟨g', 0, none⟩) ((q j).length + 1) cap')) lo X (upd v j (.slice (some ⟨g', 0, none⟩) ((q j).length + 1) cap')) tv (upd q j (q j ++ [y])) T lim ∧ RpNew w.heap.size X v tv (upd v j (.slice (some ⟨g', 0, none⟩) ((q j).length + 1) cap')) tv) ∧
    Only (RpBlk X v tv) w (w5.setCell ⟨X, rpO j, none⟩ (.slice (some ⟨g', 0, none⟩) ((q j).length + 1) cap')) := by
  refine h.row (((Only.refl (fun k => (v j).ownBlock = some k) w).alloc ob).trans (grown_only hgrow)) hj ?_ (fun g hg => ?_)
  · rw [List.length_append, List.map_append]; exact hown
  · simp only [Value.ownBlock, Option.some.injEq] at hg
    subst hg
    exact hlie.imp id (fun e => by omega)
theorem RpR.grownT {w5 : World} {ob : Obj} {g' cap' : Nat} {y : Bool} (h : RpR w lo X v tv q T lim) (hgrow : (w.alloc ob).grownBy w5 tv.ownBlock) (hlie : tv.ownBlock = some g' ∨ g' = w.heap.size + 1)
    (hown : w5.ownsRow lo 4 1 (.slice (some ⟨g', 0, none⟩) (T.length + 1) cap') (T.length + 1) (T.map Value.bool ++ [.bool y])) :
    (w5.cell? ⟨X, 2, none⟩ = some tv ∧ w5.frozen? ⟨X, 2, none⟩ = false) ∧ (RpR (w5.setCell ⟨X, 2, none⟩ (.slice (some ⟨g', 0, none⟩) (T.length + 1) cap')) lo X v (.slice (some ⟨g', 0, none⟩) (T.length + 1) cap') q (T ++ [y]) lim ∧ RpNew w.heap.size X v tv v (.slice (some ⟨g', 0, none⟩) (T.length + 1) cap')) ∧
    Only (RpBlk X v tv) w (w5.setCell ⟨X, 2, none⟩ (.slice (some ⟨g', 0, none⟩) (T.length + 1) cap')) := by
  have ho : Only (fun k => tv.ownBlock = some k) w w5 := ((Only.refl (fun k => tv.ownBlock = some k) w).alloc ob).trans (grown_only hgrow)
  have b5 := h.blk.only ho (fun e => h.apartT e rfl)
  have o5 := h.own.only ho (fun k hk e => h.apartQ hk e)
  have o6 := only_at w5 X 2 (.slice (some ⟨g', 0, none⟩) (T.length + 1) cap')
  refine ⟨⟨b5.at (o := 2) rfl, b5.frozen _⟩, ⟨⟨b5.set 2 _, o5.only o6 (fun k hk e => h.apart hk e), ?_⟩, ?_⟩, ?_⟩
  · have := own_only hown o6 (fun k hk e => blk_apart b5 hown hk (by decide) e.symm)
    simpa using this
  · rintro k (rfl | hk | hk)
    · exact .inl (.inl rfl)
    · exact .inl (.inr (.inl hk))
    · simp only [Value.ownBlock, Option.some.injEq] at hk
      subst hk
      rcases hlie with e | e
      · exact .inl (.inr (.inr e))
      · exact .inr (by omega)
  · exact (ho.mono (fun k _ hk => (.inr (.inr hk) : RpBlk X v tv k))).step o6 (fun i hi e => .inl e)
end
/-- The numbers of a pool. -/
def rpQ (x : Po Int) : Nat → List Int := fun j => if j = 0 then x.M.map (·.x) else if j = 1 then x.M.map (fun p => (p.st : Int)) else if j = 2 then x.F else []
abbrev RpIs (w : World) (lo X : Nat) (v : Nat → Value) (tv : Value) (x : Po Int) : Prop := RpR w lo X v tv (rpQ x) (x.M.map (·.tk)) x.lim
theorem map_set_same {α β : Type} {M : List α} {i : Nat} {p : α} (f : α → β) (h : M[i]? = some p) : (M.map f).set i (f p) = M.map f := by
  apply List.ext_getElem?
  intro k
  by_cases e : i = k
  · subst e
    rw [List.getElem?_set_self (by have := (List.getElem?_eq_some_iff.1 h).1; simpa using this), List.getElem?_map, h]
    rfl
  · rw [List.getElem?_set_ne e]
theorem rpQ_take {x : Po Int} {i : Nat} {p : Plc Int} {F : List Int} (h : x.M[i]? = some p) (u : Int) : upd (upd (rpQ x) 2 F) 0 ((x.M.map (·.x)).set i u) = rpQ ⟨x.lim, x.M.set i ⟨u, p.st, true⟩, F⟩ := by
  funext j
  match j with
  | 0 => simp [upd, rpQ, List.map_set]
  | 1 => simp only [upd, rpQ, List.map_set]; simp [map_set_same (fun p : Plc Int => (p.st : Int)) h]
  | 2 => simp [upd, rpQ]
  | j + 3 => simp [upd, rpQ]
theorem rpQ_new {x : Po Int} (u : Int) (hF : x.F = []) : upd (upd (upd (rpQ x) 0 (x.M.map (·.x) ++ [0])) 1 (x.M.map (fun p => (p.st : Int)) ++ [0])) 0 ((x.M.map (fun p : Plc Int => p.x) ++ [0]).set x.M.length u) = rpQ ⟨x.lim, x.M ++ [⟨u, 0, true⟩], []⟩ := by
  funext j
  match j with
  | 0 => simp [upd, rpQ]
  | 1 => simp [upd, rpQ]
  | 2 => simp [upd, rpQ, hF]
  | j + 3 => simp [upd, rpQ]
theorem rpQ_give {x : Po Int} {i : Nat} {p : Plc Int} (h : x.M[i]? = some p) (j : Int) : upd (upd (rpQ x) 1 ((x.M.map (fun p => (p.st : Int))).set i ((p.st : Int) + 1))) 2 (x.F ++ [j]) = rpQ ⟨x.lim, x.M.set i ⟨p.x, p.st + 1, false⟩, x.F ++ [j]⟩ := by
  funext j
  match j with
  | 0 => simp only [upd, rpQ, List.map_set]; simp [map_set_same (fun p : Plc Int => p.x) h]
  | 1 => simp [upd, rpQ, List.map_set]
  | 2 => simp [upd, rpQ]
  | j + 3 => simp [upd, rpQ]

end Go.Proofs.Yticdfijblcbbbaa
