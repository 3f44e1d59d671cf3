/- Layer 13, plain: nodes as forests (kids by their levels, each with its block), and what is told of them: who is at a path, how a path is changed, whom a topic reaches, how many nodes there are, how many are unlike. Nothing here names the program. · Layer 13, plain: a trie's nodes and its pairs: who is where, how many nodes, whom a topic reaches. Nothing here names the program. -/
import Derived.Test.YtabgedmocdjkcaaBytes2
import Derived.Test.YtabgedmocdjkcaaKeys3
import Derived.Test.YtabgedmocdjkcaaSets3
namespace Go.Proofs.Ytabgedmocdjkcaa

inductive Fo where
  | nil : Fo
  | cons (k : Key) (b : Nat) (L : List Int) (F R : Fo) : Fo
def Fo.ents : Fo → List Ent
  | .nil => []
  | .cons k b _ _ R => (k, (b : Int)) :: R.ents
def Fo.sz : Fo → Nat
  | .nil => 0
  | .cons _ _ _ F R => 1 + F.sz + R.sz
/-- A node: its block, its subscribers, its kids; or none. -/
abbrev Nd := Option (Nat × List Int × Fo)
def ndB (o : Nd) : Option Nat := o.map fun x => x.1
def ndL : Nd → List Int
  | none => []
  | some x => x.2.1
def ndF : Nd → Fo
  | none => .nil
  | some x => x.2.2
def ndN : Nd → Nat
  | none => 0
  | some x => 1 + x.2.2.sz
def bareB (L : List Int) : Fo → Bool
  | .nil => L.isEmpty
  | .cons _ _ _ _ _ => false
theorem bareB_iff (L : List Int) (F : Fo) : bareB L F = true ↔ L = [] ∧ F = .nil := by cases F <;> simp [bareB]
def Fo.get (k : Key) : Fo → Nd
  | .nil => none
  | .cons k' b L F R => if k' = k then some (b, L, F) else R.get k
def Fo.drop (k : Key) : Fo → Fo
  | .nil => .nil
  | .cons k' b L F R => if k' = k then R.drop k else .cons k' b L F (R.drop k)
def Fo.put : Fo → Key → Nat → List Int → Fo → Fo
  | .nil, k, b, L, G => .cons k b L G .nil
  | .cons k' b' L' F R, k, b, L, G => if bl k' k then .cons k' b' L' F (R.put k b L G) else .cons k b L G (Fo.drop k (.cons k' b' L' F R))
theorem fo_drop (k : Key) : ∀ F : Fo, (F.drop k).ents = dropE k F.ents
  | .nil => rfl
  | .cons k' b L F R => by
    unfold Fo.drop
    have h := fo_drop k R
    by_cases e : k' = k
    · rw [if_pos e, h]; simp [Fo.ents, dropE, e]
    · rw [if_neg e]; simp only [Fo.ents, h]; simp [dropE, e]
theorem fo_put (k : Key) (b : Nat) (L : List Int) (G : Fo) : ∀ F : Fo, (F.put k b L G).ents = putE k (b : Int) F.ents
  | .nil => rfl
  | .cons k' b' L' F R => by
    by_cases e : bl k' k = true
    · simp only [Fo.put, Fo.ents, putE, if_pos e, fo_put k b L G R]
    · simp only [Fo.put, Fo.ents, putE, if_neg e]
      rw [fo_drop]; rfl
theorem fo_get (k : Key) : ∀ F : Fo, getE k F.ents = (ndB (F.get k)).map fun n : Nat => (n : Int)
  | .nil => rfl
  | .cons k' b L F R => by
    by_cases e : k' = k
    · simp [Fo.ents, getE, Fo.get, e, ndB]
    · simp only [Fo.ents, getE, Fo.get, if_neg e]; exact fo_get k R
theorem fo_nil (F : Fo) : F.ents = [] ↔ F = .nil := by cases F <;> simp [Fo.ents]
theorem fo_sz : ∀ F : Fo, F.ents.length ≤ F.sz
  | .nil => by simp [Fo.ents]
  | .cons k b L F R => by
    have := fo_sz R
    simp only [Fo.ents, Fo.sz, List.length_cons]; omega
/-- No kid is bare, the levels rise, and so further below. -/
def Fo.ok : Fo → Prop
  | .nil => True
  | .cons k _ L F R => (L ≠ [] ∨ F ≠ .nil) ∧ Up L ∧ F.ok ∧ R.ok ∧ ∀ p ∈ R.ents, bl k p.1 = true
theorem Fo.ok.kup : ∀ {F : Fo}, F.ok → KUp F.ents
  | .nil, _ => List.Pairwise.nil
  | .cons _ _ _ _ _, h => List.pairwise_cons.2 ⟨h.2.2.2.2, h.2.2.2.1.kup⟩
theorem get_mem {k : Key} : ∀ {F : Fo} {x : Nat × List Int × Fo}, F.get k = some x → (k, (x.1 : Int)) ∈ F.ents
  | .nil, _, h => by simp [Fo.get] at h
  | .cons k' b L F R, x, h => by
    by_cases e : k' = k
    · simp only [Fo.get, if_pos e] at h
      cases h
      simp [Fo.ents, e]
    · simp only [Fo.get, if_neg e] at h
      exact List.mem_cons_of_mem _ (get_mem h)
theorem get_out {k : Key} {F : Fo} (h : ∀ p ∈ F.ents, p.1 ≠ k) : F.get k = none := by
  cases e : F.get k with
  | none => rfl
  | some x => exact absurd rfl (h _ (get_mem e))
theorem drop_out {k : Key} : ∀ {F : Fo}, (∀ p ∈ F.ents, p.1 ≠ k) → F.drop k = F
  | .nil, _ => rfl
  | .cons k' b L F R, h => by
    have h1 : k' ≠ k := h (k', b) (by simp [Fo.ents])
    simp only [Fo.drop, if_neg h1]
    rw [drop_out fun p hp => h p (by simp [Fo.ents, hp])]
theorem get_drop (k k' : Key) : ∀ F : Fo, (F.drop k).get k' = if k' = k then none else F.get k'
  | .nil => by simp [Fo.drop, Fo.get]
  | .cons k1 b L F R => by
    have h := get_drop k k' R
    by_cases e : k1 = k
    · simp only [Fo.drop, if_pos e, h, Fo.get]
      by_cases e2 : k' = k
      · simp [e2]
      · rw [if_neg e2, if_neg e2, if_neg (fun x => e2 (x.symm.trans e))]
    · simp only [Fo.drop, if_neg e, Fo.get, h]
      by_cases e2 : k1 = k'
      · rw [if_pos e2, if_neg (fun x => e (e2.trans x)), if_pos e2]
      · rw [if_neg e2]
        split <;> rfl
theorem get_put (k k' : Key) (b : Nat) (L : List Int) (G : Fo) : ∀ F : Fo, (F.put k b L G).get k' = if k' = k then some (b, L, G) else F.get k'
  | .nil => by simp only [Fo.put, Fo.get]; by_cases e : k = k' <;> simp [e, eq_comm]
  | .cons k1 b1 L1 F R => by
    by_cases e : bl k1 k = true
    · simp only [Fo.put, if_pos e, Fo.get, get_put k k' b L G R]
      by_cases e2 : k1 = k'
      · rw [if_pos e2, if_neg (fun x => bl_ne e (e2.trans x)), if_pos e2]
      · rw [if_neg e2]
        split <;> rfl
    · simp only [Fo.put, if_neg e]
      rw [Fo.get, get_drop]
      by_cases e2 : k = k'
      · rw [if_pos e2, if_pos e2.symm]
      · rw [if_neg e2, if_neg (Ne.symm e2), if_neg (Ne.symm e2)]
theorem mem_drop {k : Key} {F : Fo} {p : Ent} (h : p ∈ (F.drop k).ents) : p ∈ F.ents ∧ p.1 ≠ k := by
  rw [fo_drop, dropE, List.mem_filter] at h
  exact ⟨h.1, by simpa using h.2⟩
theorem mem_put {k : Key} {b : Nat} {L : List Int} {G : Fo} : ∀ {F : Fo} {p : Ent}, p ∈ (F.put k b L G).ents → p.1 = k ∨ p ∈ F.ents
  | .nil, p, h => by
    simp only [Fo.put, Fo.ents, List.mem_singleton] at h
    exact .inl (by rw [h])
  | .cons k1 b1 L1 F R, p, h => by
    by_cases e : bl k1 k = true
    · simp only [Fo.put, if_pos e, Fo.ents, List.mem_cons] at h
      rcases h with rfl | h
      · exact .inr (by simp [Fo.ents])
      · exact (mem_put h).imp id fun h => by simp [Fo.ents, h]
    · simp only [Fo.put, if_neg e] at h
      rw [Fo.ents, List.mem_cons] at h
      rcases h with rfl | h
      · exact .inl rfl
      · exact .inr (mem_drop h).1
theorem ok_drop (k : Key) : ∀ {F : Fo}, F.ok → (F.drop k).ok
  | .nil, _ => trivial
  | .cons k1 b1 L1 F R, ⟨h1, h2, h3, h4, h5⟩ => by
    by_cases e : k1 = k
    · simp only [Fo.drop, if_pos e]; exact ok_drop k h4
    · simp only [Fo.drop, if_neg e]
      exact ⟨h1, h2, h3, ok_drop k h4, fun p hp => h5 p (mem_drop hp).1⟩
theorem ok_put {k : Key} {b : Nat} {L : List Int} {G : Fo} (hb : L ≠ [] ∨ G ≠ .nil) (hL : Up L) (hG : G.ok) : ∀ {F : Fo}, F.ok → (F.put k b L G).ok
  | .nil, _ => ⟨hb, hL, hG, trivial, fun p hp => by simp [Fo.ents] at hp⟩
  | .cons k1 b1 L1 F R, ⟨h1, h2, h3, h4, h5⟩ => by
    by_cases e : bl k1 k = true
    · simp only [Fo.put, if_pos e]
      refine ⟨h1, h2, h3, ok_put hb hL hG h4, fun p hp => ?_⟩
      rcases mem_put hp with h | h
      · rw [h]; exact e
      · exact h5 p h
    · simp only [Fo.put, if_neg e]
      refine ⟨hb, hL, hG, ok_drop k (F := .cons k1 b1 L1 F R) ⟨h1, h2, h3, h4, h5⟩, fun p hp => ?_⟩
      obtain ⟨hp, hne⟩ := mem_drop hp
      have e' : bl k1 k = false := by simpa using e
      have hk : k1 = k ∨ bl k k1 = true := by
        by_cases h : bl k k1 = true
        · exact .inr h
        · exact .inl (bl_total e' (by simpa using h))
      rw [Fo.ents, List.mem_cons] at hp
      rcases hp with rfl | hp
      · rcases hk with h | h
        · exact absurd h hne
        · exact h
      · rcases hk with h | h
        · rw [← h]; exact h5 p hp
        · exact bl_trans h (h5 p hp)
theorem out_of {k : Key} {R : Fo} (h : ∀ p ∈ R.ents, bl k p.1 = true) : ∀ p ∈ R.ents, p.1 ≠ k := fun p hp e => by
  have := h p hp
  rw [e, bl_irrefl] at this; cases this
theorem sz_drop (k : Key) : ∀ {F : Fo}, F.ok → (F.drop k).sz + ndN (F.get k) = F.sz
  | .nil, _ => rfl
  | .cons k1 b1 L1 F R, ⟨h1, h2, h3, h4, h5⟩ => by
    by_cases e : k1 = k
    · subst e
      simp only [Fo.drop, Fo.get, if_pos, ndN, Fo.sz]
      rw [drop_out (out_of h5)]; omega
    · simp only [Fo.drop, Fo.get, if_neg e, Fo.sz]
      have := sz_drop k h4; omega
theorem sz_put {k : Key} {b : Nat} {L : List Int} {G : Fo} : ∀ {F : Fo}, F.ok → (F.put k b L G).sz + ndN (F.get k) = F.sz + 1 + G.sz
  | .nil, _ => by simp only [Fo.put, Fo.get, ndN, Fo.sz]; omega
  | .cons k1 b1 L1 F R, h => by
    by_cases e : bl k1 k = true
    · have := sz_put (k := k) (b := b) (L := L) (G := G) h.2.2.2.1
      simp only [Fo.put, if_pos e, Fo.get, if_neg (bl_ne e), Fo.sz]; omega
    · have := sz_drop k h
      simp only [Fo.put, if_neg e]
      rw [Fo.sz]; omega
theorem get_le (k : Key) : ∀ F : Fo, ndN (F.get k) ≤ F.sz
  | .nil => Nat.le_refl _
  | .cons k1 b1 L1 F R => by
    have := get_le k R
    by_cases e : k1 = k
    · simp only [Fo.get, if_pos e, ndN, Fo.sz]; omega
    · simp only [Fo.get, if_neg e, Fo.sz]; omega
theorem get_two {k k' : Key} (h : k ≠ k') : ∀ F : Fo, ndN (F.get k) + ndN (F.get k') ≤ F.sz
  | .nil => Nat.le_refl _
  | .cons k1 b1 L1 F R => by
    have := get_two h R
    have h1 := get_le k R
    have h2 := get_le k' R
    by_cases e : k1 = k
    · have e2 : k1 ≠ k' := fun x => h (e.symm.trans x)
      rw [Fo.get, if_pos e, Fo.get, if_neg e2]
      show 1 + F.sz + ndN (R.get k') ≤ 1 + F.sz + R.sz
      omega
    · by_cases e2 : k1 = k'
      · rw [Fo.get, if_neg e, Fo.get, if_pos e2]
        show ndN (R.get k) + (1 + F.sz) ≤ 1 + F.sz + R.sz
        omega
      · rw [Fo.get, if_neg e, Fo.get, if_neg e2]
        show ndN (R.get k) + ndN (R.get k') ≤ 1 + F.sz + R.sz
        omega
theorem ndN_F (o : Nd) : (ndF o).sz ≤ ndN o := by cases o <;> simp [ndF, ndN, Fo.sz]
theorem kid_le (k : Key) (o : Nd) : ndN ((ndF o).get k) ≤ ndN o := Nat.le_trans (get_le k _) (ndN_F o)

/-- The node at a path. -/
def atZ : List Key → Nd → Nd
  | [], o => o
  | k :: p, o => atZ p ((ndF o).get k)
/-- Who is there. -/
def subZ (o : Nd) (p : List Key) : List Int := ndL (atZ p o)
theorem at_none : ∀ p, atZ p none = none
  | [] => rfl
  | k :: p => by simp only [atZ, ndF, Fo.get]; exact at_none p
theorem at_app : ∀ (p q : List Key) (o : Nd), atZ (p ++ q) o = atZ q (atZ p o)
  | [], _, _ => rfl
  | k :: p, q, o => by simp only [List.cons_append, atZ]; exact at_app p q _
theorem sub_none (p : List Key) : subZ none p = [] := by simp [subZ, at_none, ndL]
theorem sub_cons (o : Nd) (k : Key) (p : List Key) : subZ o (k :: p) = subZ ((ndF o).get k) p := rfl
theorem sub_nil (o : Nd) : subZ o [] = ndL o := rfl
theorem sub_bare (b : Nat) (p : List Key) : subZ (some (b, [], .nil)) p = [] := by
  cases p with
  | nil => rfl
  | cons k p => rw [sub_cons]; exact sub_none p
theorem sub_full {o : Nd} {p : List Key} {s : Int} (h : s ∈ subZ o p) : ndL o ≠ [] ∨ ndF o ≠ .nil := by
  by_cases h1 : ndL o = []
  · refine .inr fun h2 => ?_
    cases p with
    | nil => rw [sub_nil, h1] at h; simp at h
    | cons k p => rw [sub_cons, h2, Fo.get, sub_none] at h; simp at h
  · exact .inl h1

/-- A node and what it becomes when the one at a path is changed. -/
def Chg (h : List Int → List Int) : List Key → Nd → Nd → Prop
  | [], o, o' => ∃ b, o' = some (b, h (ndL o), ndF o)
  | k :: p, o, o' => ∃ b bq Lq Fq, Chg h p ((ndF o).get k) (some (bq, Lq, Fq)) ∧ o' = some (b, ndL o, if bareB Lq Fq then (ndF o).drop k else (ndF o).put k bq Lq Fq)
theorem chg_sub {h : List Int → List Int} : ∀ {p : List Key} {o o' : Nd}, Chg h p o o' → ∀ q, subZ o' q = if q = p then h (subZ o p) else subZ o q
  | [], o, o', ⟨b, e⟩, q => by
    subst e
    cases q with
    | nil => rw [if_pos rfl]; rfl
    | cons k q => rw [if_neg (by simp)]; rfl
  | k :: p, o, o', ⟨b, bq, Lq, Fq, hq, e⟩, q => by
    subst e
    cases q with
    | nil => exact (if_neg (List.cons_ne_nil k p).symm).symm
    | cons k' q =>
      have ih := chg_sub hq q
      rw [sub_cons, sub_cons, sub_cons]
      show subZ (Fo.get k' (if bareB Lq Fq = true then (ndF o).drop k else (ndF o).put k bq Lq Fq)) q = _
      by_cases e : k' = k
      · subst e
        have hh : subZ (Fo.get k' (if bareB Lq Fq = true then (ndF o).drop k' else (ndF o).put k' bq Lq Fq)) q = subZ (some (bq, Lq, Fq)) q := by
          by_cases hb : bareB Lq Fq = true
          · rw [if_pos hb, get_drop, if_pos rfl, sub_none]
            obtain ⟨rfl, rfl⟩ := (bareB_iff _ _).1 hb
            exact (sub_bare _ _).symm
          · rw [if_neg hb, get_put, if_pos rfl]
        rw [hh, ih]
        simp
      · refine Eq.trans ?_ (if_neg (by simp [e])).symm
        split
        · rw [get_drop, if_neg e]
        · rw [get_put, if_neg e]
def okN (o : Nd) : Prop := Up (ndL o) ∧ (ndF o).ok
theorem okN_none : okN none := ⟨List.Pairwise.nil, trivial⟩
theorem get_ok {k : Key} : ∀ {F : Fo} {x : Nat × List Int × Fo}, F.ok → F.get k = some x → (x.2.1 ≠ [] ∨ x.2.2 ≠ .nil) ∧ Up x.2.1 ∧ x.2.2.ok
  | .nil, _, _, h => by simp [Fo.get] at h
  | .cons k1 b1 L1 F R, x, ⟨h1, h2, h3, h4, h5⟩, h => by
    by_cases e : k1 = k
    · simp only [Fo.get, if_pos e] at h
      cases h
      exact ⟨h1, h2, h3⟩
    · simp only [Fo.get, if_neg e] at h
      exact get_ok h4 h
theorem okN_get {k : Key} {F : Fo} (h : F.ok) : okN (F.get k) := by
  cases e : F.get k with
  | none => exact okN_none
  | some x => exact (get_ok h e).2
theorem chg_ok {h : List Int → List Int} (hh : ∀ L, Up L → Up (h L)) : ∀ {p : List Key} {o o' : Nd}, okN o → Chg h p o o' → okN o'
  | [], o, o', ho, ⟨b, e⟩ => by subst e; exact ⟨hh _ ho.1, ho.2⟩
  | k :: p, o, o', ho, ⟨b, bq, Lq, Fq, hq, e⟩ => by
    subst e
    have ih := chg_ok hh (okN_get ho.2) hq
    refine ⟨ho.1, ?_⟩
    show Fo.ok (if bareB Lq Fq = true then (ndF o).drop k else (ndF o).put k bq Lq Fq)
    split
    · exact ok_drop k ho.2
    · rename_i hb
      refine ok_put ?_ ih.1 ih.2 ho.2
      rw [bareB_iff] at hb
      by_cases h1 : Lq = []
      · exact .inr fun h2 => hb ⟨h1, h2⟩
      · exact .inl h1
theorem chg_size {h : List Int → List Int} (hh : ∀ L, Up L → Up (h L)) : ∀ {p : List Key} {o o' : Nd}, okN o → Chg h p o o' → ndN o' ≤ ndN o + p.length + 1
  | [], o, o', ho, ⟨b, e⟩ => by
    subst e
    have := ndN_F o
    simp only [ndN, List.length_nil] at this ⊢; omega
  | k :: p, o, o', ho, ⟨b, bq, Lq, Fq, hq, e⟩ => by
    subst e
    have ih := chg_size hh (okN_get ho.2) hq
    have hF := ndN_F o
    have hd := sz_drop k ho.2
    have hp := sz_put (k := k) (b := bq) (L := Lq) (G := Fq) ho.2
    have hq' : ndN (some (bq, Lq, Fq)) = 1 + Fq.sz := rfl
    show 1 + Fo.sz (if bareB Lq Fq = true then (ndF o).drop k else (ndF o).put k bq Lq Fq) ≤ _
    rw [List.length_cons]
    split <;> omega

/-- How many of a forest's nodes aren't, at their places, in another one. -/
def Fo.cnt : Fo → Fo → Nat
  | .nil, _ => 0
  | .cons k b _ F R, G => (if ndB (G.get k) = some b then 0 else 1 + F.cnt (ndF (G.get k))) + R.cnt G
def ndC : Nd → Nd → Nat
  | none, _ => 0
  | some x, o => if ndB o = some x.1 then 0 else 1 + x.2.2.cnt (ndF o)
theorem ndC_self (o : Nd) : ndC o o = 0 := by
  cases o with
  | none => rfl
  | some x => simp [ndC, ndB]
def Alike (F G : Fo) : Prop := ∀ p ∈ F.ents, ∃ b : Nat, p.2 = (b : Int) ∧ ndB (G.get p.1) = some b
theorem Alike.self : ∀ {F : Fo}, F.ok → Alike F F
  | .nil, _ => fun p hp => by simp [Fo.ents] at hp
  | .cons k1 b1 L1 F R, h => fun p hp => by
    rw [Fo.ents, List.mem_cons] at hp
    rcases hp with rfl | hp
    · exact ⟨b1, rfl, by simp [Fo.get, ndB]⟩
    · obtain ⟨b, e, hb⟩ := Alike.self h.2.2.2.1 p hp
      refine ⟨b, e, ?_⟩
      rw [Fo.get, if_neg (fun x => out_of h.2.2.2.2 p hp x.symm)]; exact hb
theorem cnt_alike : ∀ {F G : Fo}, Alike F G → F.cnt G = 0
  | .nil, _, _ => rfl
  | .cons k b L F R, G, h => by
    obtain ⟨b', e, hb⟩ := h (k, b) (by simp [Fo.ents])
    obtain rfl : b = b' := by have e : (b : Int) = b' := e; omega
    have := cnt_alike (F := R) (G := G) fun p hp => h p (by simp [Fo.ents, hp])
    simp only [Fo.cnt, if_pos hb, this]
theorem Alike.drop {F G : Fo} {k : Key} (h : Alike F G) : Alike (F.drop k) G := fun p hp => h p (mem_drop hp).1
theorem cnt_put {k : Key} {b : Nat} {L : List Int} {E : Fo} {G : Fo} : ∀ {F : Fo}, Alike F G → (F.put k b L E).cnt G ≤ ndC (some (b, L, E)) (G.get k)
  | .nil, _ => by simp [Fo.put, Fo.cnt, ndC]
  | .cons k1 b1 L1 F R, h => by
    by_cases e : bl k1 k = true
    · obtain ⟨b', e', hb⟩ := h (k1, b1) (by simp [Fo.ents])
      obtain rfl : b1 = b' := by have e : (b1 : Int) = b' := e'; omega
      have := cnt_put (k := k) (b := b) (L := L) (E := E) (G := G) (F := R) fun p hp => h p (by simp [Fo.ents, hp])
      simp only [Fo.put, if_pos e, Fo.cnt, if_pos hb]; omega
    · have hd := cnt_alike (h.drop (k := k))
      simp only [Fo.put, if_neg e]
      rw [Fo.cnt, hd]
      simp [ndC]
theorem chg_cnt {h : List Int → List Int} : ∀ {p : List Key} {o o' : Nd}, okN o → Chg h p o o' → ndC o' o ≤ p.length + 1
  | [], o, o', ho, ⟨b, e⟩ => by
    subst e
    simp only [ndC]
    have := cnt_alike (Alike.self ho.2)
    split <;> simp [this]
  | k :: p, o, o', ho, ⟨b, bq, Lq, Fq, hq, e⟩ => by
    subst e
    have ih := chg_cnt (okN_get ho.2) hq
    have h1 := cnt_put (k := k) (b := bq) (L := Lq) (E := Fq) (Alike.self ho.2)
    have h2 := cnt_alike ((Alike.self ho.2).drop (k := k))
    simp only [ndC, List.length_cons] at ih h1 ⊢
    split
    · omega
    · split
      · rw [h2]; omega
      · omega

/-- Whom a topic's levels reach from here. -/
def gath : List Key → Nd → List Int
  | [], o => ndL ((ndF o).get [35]) ++ ndL o
  | y :: s, o => ndL ((ndF o).get [35]) ++ (gath s ((ndF o).get y) ++ gath s ((ndF o).get [43]))
theorem gath_none : ∀ T, gath T none = []
  | [] => rfl
  | y :: s => by simp only [gath, ndF, Fo.get, ndL, gath_none s]; rfl
/-- Which paths match. -/
def mt : List Key → List Key → Prop
  | [], p => p = [] ∨ p = [[35]]
  | y :: s, p => p = [[35]] ∨ ∃ k q, p = k :: q ∧ (k = y ∨ k = [43]) ∧ mt s q
theorem mem_gath {s : Int} : ∀ {T : List Key} {o : Nd}, s ∈ gath T o ↔ ∃ p, mt T p ∧ s ∈ subZ o p
  | [], o => by
    simp only [gath, List.mem_append, mt]
    constructor
    · rintro (h | h)
      · exact ⟨[[35]], .inr rfl, h⟩
      · exact ⟨[], .inl rfl, h⟩
    · rintro ⟨p, rfl | rfl, h⟩
      · exact .inr h
      · exact .inl h
  | y :: T, o => by
    simp only [gath, List.mem_append, mt, mem_gath (T := T)]
    constructor
    · rintro (h | ⟨p, h1, h2⟩ | ⟨p, h1, h2⟩)
      · exact ⟨[[35]], .inl rfl, h⟩
      · exact ⟨y :: p, .inr ⟨y, p, rfl, .inl rfl, h1⟩, h2⟩
      · exact ⟨[43] :: p, .inr ⟨[43], p, rfl, .inr rfl, h1⟩, h2⟩
    · rintro ⟨p, rfl | ⟨k, q, rfl, rfl | rfl, h⟩, hs⟩
      · exact .inl hs
      · exact .inr (.inl ⟨q, h, hs⟩)
      · exact .inr (.inr ⟨q, h, hs⟩)
theorem levelsOk_hash {r : List Key} (h : levelsOk ([35] :: r) = true) : r = [] := by
  rw [levelsOk, Bool.and_eq_true] at h
  have := h.1
  unfold levelOk at this
  rw [if_neg (by decide), if_pos rfl, List.isEmpty_iff] at this
  exact this
theorem mt_covers : ∀ {T p : List Key}, levelsOk p = true → (∀ y ∈ T, y ≠ [35]) → (mt T p ↔ coversL p T = true)
  | [], p, hp, _ => by
    cases p with
    | nil => simp [mt, coversL]
    | cons x r =>
      by_cases hx : x = [35]
      · subst hx
        rw [levelsOk_hash hp]
        simp [mt, coversL_hash]
      · rw [coversL_none hx]; simp [mt, hx]
  | y :: T, p, hp, hT => by
    cases p with
    | nil => simp [mt, coversL]
    | cons x r =>
      by_cases hx : x = [35]
      · subst hx
        rw [levelsOk_hash hp]
        simp [mt, coversL_hash]
      · have hy : y ≠ [35] := hT y (by simp)
        have h2 : levelsOk r = true := by rw [levelsOk, Bool.and_eq_true] at hp; exact hp.2
        rw [coversL_cons hx, Bool.and_eq_true, ← mt_covers h2 fun z hz => hT z (by simp [hz])]
        have ha : alikeZ x y = true ↔ (x = y ∨ x = [43]) := by unfold alikeZ; simp [hy]
        rw [ha]
        constructor
        · rintro (h | ⟨k, q, h, h1, h2⟩)
          · exact absurd (by injection h) hx
          · injection h with e1 e2
            subst e1; subst e2
            exact ⟨h1, h2⟩
        · rintro ⟨h1, h2⟩
          exact .inr ⟨x, r, rfl, h1, h2⟩
theorem gath_len {M : Nat} : ∀ {T : List Key} {o : Nd}, (∀ p, (subZ o p).length ≤ M) → (∀ y ∈ T, y ≠ [43]) → (gath T o).length ≤ 2 * M * ndN o
  | T, none, _, _ => by rw [gath_none]; simp
  | [], some x, h, _ => by
    have h1 := h [[35]]
    have h2 := h []
    simp only [subZ, atZ] at h1 h2
    simp only [gath, List.length_append, ndN]
    have : 2 * M * 1 ≤ 2 * M * (1 + x.2.2.sz) := Nat.mul_le_mul_left _ (by omega)
    omega
  | y :: T, some x, h, hT => by
    have h1 := h [[35]]
    simp only [subZ, atZ] at h1
    have i1 := gath_len (T := T) (o := (ndF (some x)).get y) (fun p => h (y :: p)) fun z hz => hT z (by simp [hz])
    have i2 := gath_len (T := T) (o := (ndF (some x)).get [43]) (fun p => h ([43] :: p)) fun z hz => hT z (by simp [hz])
    have hg := get_two (hT y (by simp)) (ndF (some x))
    simp only [gath, List.length_append]
    have e : ndN (some x) = 1 + (ndF (some x)).sz := rfl
    have h3 : 2 * M * (ndN ((ndF (some x)).get y) + ndN ((ndF (some x)).get [43])) ≤ 2 * M * (ndF (some x)).sz := Nat.mul_le_mul_left _ hg
    rw [Nat.mul_add] at h3
    rw [e, Nat.mul_add]
    omega
end Go.Proofs.Ytabgedmocdjkcaa

namespace Go.Proofs.Ytabgedmocdjkcaa

/-- A pair: a filter's bytes and a subscriber. -/
abbrev Pr := Key × Int
theorem lv_inj {f g : Key} (h : lv f = lv g) : f = g := by rw [← joinZ_lv f, ← joinZ_lv g, h]
/-- All beginnings of a path, but the empty one. -/
def pres : List Key → List (List Key)
  | [] => []
  | k :: p => [k] :: (pres p).map (k :: ·)
theorem pres_len : ∀ p, (pres p).length = p.length
  | [] => rfl
  | k :: p => by simp [pres, pres_len p]
theorem mem_pres : ∀ {p q : List Key}, q ∈ pres p ↔ q ≠ [] ∧ q <+: p
  | [], q => by simp [pres]
  | k :: p, q => by
    cases q with
    | nil => simp [pres]
    | cons y r =>
      simp only [pres, List.mem_cons, List.mem_map, List.cons_prefix_cons]
      constructor
      · rintro (h | ⟨z, hz, h⟩)
        · injection h with h1 h2
          subst h1; subst h2
          exact ⟨by simp, rfl, List.nil_prefix⟩
        · injection h with h1 h2
          subst h1; subst h2
          exact ⟨by simp, rfl, (mem_pres.1 hz).2⟩
      · rintro ⟨_, rfl, h⟩
        by_cases hr : r = []
        · subst hr; exact .inl rfl
        · exact .inr ⟨r, mem_pres.2 ⟨hr, h⟩, rfl⟩
def allP (P : List Pr) : List (List Key) := P.flatMap fun x => pres (lv x.1)
theorem mem_allP {P : List Pr} {q : List Key} : q ∈ allP P ↔ q ≠ [] ∧ ∃ x ∈ P, q <+: lv x.1 := by
  simp only [allP, List.mem_flatMap, mem_pres]
  constructor
  · rintro ⟨x, hx, h1, h2⟩; exact ⟨h1, x, hx, h2⟩
  · rintro ⟨h1, x, hx, h2⟩; exact ⟨x, hx, h1, h2⟩
theorem nodup_le {α : Type} [DecidableEq α] : ∀ {a b : List α}, a.Nodup → (∀ x ∈ a, x ∈ b) → a.length ≤ b.length
  | [], _, _, _ => Nat.zero_le _
  | x :: a, b, hn, h => by
    obtain ⟨h1, h2⟩ := List.nodup_cons.1 hn
    have hx : x ∈ b := h x (by simp)
    have := nodup_le (b := b.erase x) h2 fun y hy => (List.mem_erase_of_ne (by rintro rfl; exact h1 hy)).2 (h y (by simp [hy]))
    rw [List.length_erase_of_mem hx] at this
    have hp := List.length_pos_of_mem hx
    rw [List.length_cons]; omega
/-- n is how many beginnings there are. -/
def SizeIs (P : List Pr) (n : Nat) : Prop := ∃ N : List (List Key), N.Nodup ∧ N.length = n ∧ ∀ q, q ∈ N ↔ q ∈ allP P
theorem SizeIs.le {P Q : List Pr} {n m : Nat} (h : SizeIs P n) (k : SizeIs Q m) (hs : ∀ x ∈ P, x ∈ Q) : n ≤ m := by
  obtain ⟨N, h1, rfl, h3⟩ := h
  obtain ⟨M, k1, rfl, k3⟩ := k
  refine nodup_le h1 fun q hq => (k3 q).2 ?_
  obtain ⟨hne, x, hx, hp⟩ := mem_allP.1 ((h3 q).1 hq)
  exact mem_allP.2 ⟨hne, x, hs x hx, hp⟩
theorem SizeIs.eq {P Q : List Pr} {n m : Nat} (h : SizeIs P n) (k : SizeIs Q m) (hs : ∀ x, x ∈ P ↔ x ∈ Q) : n = m :=
  Nat.le_antisymm (h.le k fun x hx => (hs x).1 hx) (k.le h fun x hx => (hs x).2 hx)
theorem SizeIs.join {P Q R : List Pr} {n m r : Nat} (h : SizeIs P n) (k : SizeIs Q m) (l : SizeIs R r) (hs : ∀ x ∈ R, x ∈ P ∨ x ∈ Q) : r ≤ n + m := by
  obtain ⟨N, h1, rfl, h3⟩ := h
  obtain ⟨M, k1, rfl, k3⟩ := k
  obtain ⟨O, l1, rfl, l3⟩ := l
  rw [← List.length_append]
  refine nodup_le l1 fun q hq => ?_
  obtain ⟨hne, x, hx, hp⟩ := mem_allP.1 ((l3 q).1 hq)
  rw [List.mem_append]
  rcases hs x hx with hx | hx
  · exact .inl ((h3 q).2 (mem_allP.2 ⟨hne, x, hx, hp⟩))
  · exact .inr ((k3 q).2 (mem_allP.2 ⟨hne, x, hx, hp⟩))
theorem allP_len {P : List Pr} {M : Nat} (h : ∀ x ∈ P, (lv x.1).length ≤ M) : (allP P).length ≤ M * P.length := by
  induction P with
  | nil => simp [allP]
  | cons x P ih =>
    have h1 := h x (by simp)
    have h2 := ih fun y hy => h y (by simp [hy])
    have e : allP (x :: P) = pres (lv x.1) ++ allP P := by simp [allP]
    rw [e, List.length_append, pres_len, List.length_cons, Nat.mul_succ]; omega

/-- All nodes of a forest, by their paths. -/
def Fo.nodes : Fo → List (List Key)
  | .nil => []
  | .cons k _ _ F R => [k] :: (F.nodes.map (k :: ·) ++ R.nodes)
theorem nodes_len : ∀ F : Fo, F.nodes.length = F.sz
  | .nil => rfl
  | .cons k b L F R => by
    simp only [Fo.nodes, Fo.sz, List.length_cons, List.length_append, List.length_map, nodes_len F, nodes_len R]; omega
theorem mem_nodes : ∀ {F : Fo}, F.ok → ∀ q, q ∈ F.nodes ↔ ∃ k p, q = k :: p ∧ atZ p (F.get k) ≠ none
  | .nil, _, q => by simp [Fo.nodes, Fo.get, at_none]
  | .cons k1 b L F R, h, q => by
    have iF := mem_nodes h.2.2.1
    have iR := mem_nodes h.2.2.2.1
    simp only [Fo.nodes, List.mem_cons, List.mem_append, List.mem_map]
    constructor
    · rintro (rfl | ⟨r, hr, rfl⟩ | hr)
      · exact ⟨k1, [], rfl, by simp [Fo.get, atZ]⟩
      · obtain ⟨k, p, rfl, hp⟩ := (iF r).1 hr
        exact ⟨k1, k :: p, rfl, by rw [Fo.get, if_pos rfl]; exact hp⟩
      · obtain ⟨k, p, rfl, hp⟩ := (iR q).1 hr
        refine ⟨k, p, rfl, ?_⟩
        have hne : k1 ≠ k := by
          rintro rfl
          rw [get_out (out_of h.2.2.2.2), at_none] at hp
          exact hp rfl
        rw [Fo.get, if_neg hne]; exact hp
    · rintro ⟨k, p, rfl, hp⟩
      by_cases e : k1 = k
      · subst e
        rw [Fo.get, if_pos rfl] at hp
        cases p with
        | nil => exact .inl rfl
        | cons k2 p => exact .inr (.inl ⟨k2 :: p, (iF _).2 ⟨k2, p, rfl, hp⟩, rfl⟩)
      · rw [Fo.get, if_neg e] at hp
        exact .inr (.inr ((iR _).2 ⟨k, p, rfl, hp⟩))
theorem nodes_nodup : ∀ {F : Fo}, F.ok → F.nodes.Nodup
  | .nil, _ => List.nodup_nil
  | .cons k1 b L F R, h => by
    have iF := nodes_nodup h.2.2.1
    have iR := nodes_nodup h.2.2.2.1
    have hR : ∀ p, k1 :: p ∉ R.nodes := fun p hp => by
      obtain ⟨k, p', e, hp'⟩ := (mem_nodes h.2.2.2.1 _).1 hp
      injection e with e1 e2
      subst e1
      rw [get_out (out_of h.2.2.2.2), at_none] at hp'
      exact hp' rfl
    refine List.nodup_cons.2 ⟨fun hm => ?_, List.nodup_append.2 ⟨?_, iR, ?_⟩⟩
    · rw [List.mem_append, List.mem_map] at hm
      rcases hm with ⟨r, hr, e⟩ | hm
      · obtain ⟨k, p, rfl, _⟩ := (mem_nodes h.2.2.1 _).1 hr
        cases e
      · exact hR [] hm
    · exact List.Pairwise.map _ (fun a b hab e => hab (by injection e)) iF
    · intro a ha b' hb' e
      subst e
      obtain ⟨r, _, rfl⟩ := List.mem_map.1 ha
      exact hR r hb'
def fullN (o : Nd) : Prop := o ≠ none → ndL o ≠ [] ∨ ndF o ≠ .nil
theorem full_has : ∀ {F : Fo}, F.ok → ∀ (b : Nat) (L : List Int), (L ≠ [] ∨ F ≠ .nil) → ∃ p s, s ∈ subZ (some (b, L, F)) p
  | .nil, _, b, L, h => by
    rcases h with h | h
    · obtain ⟨s, r, rfl⟩ := List.exists_cons_of_ne_nil h
      exact ⟨[], s, by simp [subZ, atZ, ndL]⟩
    · exact absurd rfl h
  | .cons k b1 L1 F R, hok, b, L, h => by
    obtain ⟨p, s, hs⟩ := full_has hok.2.2.1 b1 L1 hok.1
    exact ⟨k :: p, s, by rw [sub_cons]; simp only [ndF, Fo.get, if_pos]; exact hs⟩
theorem at_keeps : ∀ (p : List Key) {o : Nd}, okN o → fullN o → okN (atZ p o) ∧ fullN (atZ p o)
  | [], _, h1, h2 => ⟨h1, h2⟩
  | k :: p, o, h1, h2 => by
    refine at_keeps p (okN_get h1.2) ?_
    intro hne
    cases e : (ndF o).get k with
    | none => exact absurd e hne
    | some x => exact (get_ok h1.2 e).1

/-- A trie's root and its pairs. -/
structure TrOk (o : Nd) (P : List Pr) : Prop where
  nodup : P.Nodup
  filt : ∀ x ∈ P, filterZ x.1 = true
  has : ∀ p s, s ∈ subZ o p ↔ ∃ f, (f, s) ∈ P ∧ lv f = p
  ok : okN o
  full : fullN o
theorem trOk_nil : TrOk none [] := ⟨List.nodup_nil, fun x hx => by simp at hx, fun p s => by simp [sub_none], okN_none, fun h => absurd rfl h⟩
section
variable {o o' : Nd} {P : List Pr} {f : Key} {s : Int}
theorem TrOk.mem (h : TrOk o P) : s ∈ subZ o (lv f) ↔ (f, s) ∈ P := by
  rw [h.has]
  constructor
  · rintro ⟨g, hg, e⟩; rw [lv_inj e] at hg; exact hg
  · exact fun h => ⟨f, h, rfl⟩
theorem TrOk.up (h : TrOk o P) (p : List Key) : Up (subZ o p) := (at_keeps p h.ok h.full).1.1
theorem TrOk.len (h : TrOk o P) (p : List Key) : (subZ o p).length ≤ P.length := by
  have h1 : (subZ o p).Nodup := (h.up p).imp fun h => by omega
  have := nodup_le (b := P.map fun x => x.2) h1 fun s hs => by
    obtain ⟨f, hf, _⟩ := (h.has p s).1 hs
    exact List.mem_map.2 ⟨(f, s), hf, rfl⟩
  simpa using this
theorem TrOk.size (h : TrOk o P) : SizeIs P (ndN o - 1) := by
  have e : ndN o - 1 = (ndF o).nodes.length := by
    rw [nodes_len]
    cases o <;> simp [ndN, ndF, Fo.sz]
  refine ⟨(ndF o).nodes, nodes_nodup h.ok.2, e.symm, fun q => ?_⟩
  rw [mem_nodes h.ok.2, mem_allP]
  constructor
  · rintro ⟨k, p, rfl, hp⟩
    refine ⟨by simp, ?_⟩
    have hk := at_keeps (k :: p) h.ok h.full
    have e : atZ (k :: p) o = atZ p ((ndF o).get k) := rfl
    rw [e] at hk
    cases hn : atZ p ((ndF o).get k) with
    | none => exact absurd hn hp
    | some x =>
      rw [hn] at hk
      obtain ⟨r, s, hs⟩ := full_has hk.1.2 x.1 x.2.1 (hk.2 (by simp))
      have hs' : s ∈ subZ o (k :: p ++ r) := by
        rw [subZ, at_app, e, hn]; exact hs
      obtain ⟨f, hf, ef⟩ := (h.has _ _).1 hs'
      exact ⟨(f, s), hf, by rw [ef]; exact List.prefix_append _ _⟩
  · rintro ⟨hne, x, hx, r, hr⟩
    cases q with
    | nil => exact absurd rfl hne
    | cons k p =>
      refine ⟨k, p, rfl, fun hn => ?_⟩
      have hs := (h.mem (f := x.1) (s := x.2)).2 hx
      rw [← hr, subZ, at_app, show atZ (k :: p) o = atZ p ((ndF o).get k) from rfl, hn, at_none] at hs
      simp [ndL] at hs
theorem lv_small {f : Key} (h : filterZ f = true) : (lv f).length ≤ 33 := by
  have h1 := bytesOk_len (filterZ_bytes h)
  have h2 := lv_length f
  have h3 := cntZ_le f 47
  unfold cntZ at h3
  omega
theorem TrOk.small (h : TrOk o P) : ndN o ≤ 33 * P.length + 1 := by
  obtain ⟨N, h1, h2, h3⟩ := h.size
  have h4 := nodup_le h1 fun q hq => (h3 q).1 hq
  have h5 := allP_len (P := P) (M := 33) fun x hx => lv_small (h.filt x hx)
  omega
theorem TrOk.none_iff (h : TrOk o P) : o = none ↔ P = [] := by
  constructor
  · rintro rfl
    cases P with
    | nil => rfl
    | cons x P =>
      have := (h.mem (f := x.1) (s := x.2)).2 (by simp)
      rw [sub_none] at this; simp at this
  · rintro rfl
    cases o with
    | none => rfl
    | some x =>
      obtain ⟨p, s, hs⟩ := full_has h.ok.2 x.1 x.2.1 (h.full (by simp))
      obtain ⟨f, hf, _⟩ := (h.has p s).1 hs
      simp at hf
theorem chg_ne {h : List Int → List Int} {p : List Key} (hc : Chg h p o o') : o' ≠ none := by
  cases p with
  | nil => obtain ⟨b, rfl⟩ := hc; simp
  | cons k p => obtain ⟨b, _, _, _, _, rfl⟩ := hc; simp
/-- A pair more. -/
theorem TrOk.add (h : TrOk o P) (hf : filterZ f = true) (hn : (f, s) ∉ P) (hc : Chg (withZ s) (lv f) o o') : TrOk o' (P ++ [(f, s)]) := by
  have hs := chg_sub hc
  have hh : ∀ p s', s' ∈ subZ o' p ↔ ∃ g, (g, s') ∈ P ++ [(f, s)] ∧ lv g = p := fun p s' => by
    rw [hs p]
    by_cases e : p = lv f
    · subst e
      rw [if_pos rfl, mem_withZ]
      constructor
      · rintro (rfl | h1)
        · exact ⟨f, by simp, rfl⟩
        · exact ⟨f, by simp [h.mem.1 h1], rfl⟩
      · rintro ⟨g, hg, eg⟩
        rw [lv_inj eg] at hg
        rw [List.mem_append, List.mem_singleton] at hg
        rcases hg with hg | hg
        · exact .inr (h.mem.2 hg)
        · exact .inl (by injection hg)
    · rw [if_neg e, h.has]
      constructor
      · rintro ⟨g, hg, eg⟩; exact ⟨g, by simp [hg], eg⟩
      · rintro ⟨g, hg, eg⟩
        rw [List.mem_append, List.mem_singleton] at hg
        rcases hg with hg | hg
        · exact ⟨g, hg, eg⟩
        · injection hg with e1 e2
          exact absurd (by rw [← eg, e1]) e
  refine ⟨?_, fun x hx => ?_, hh, chg_ok (fun L hL => up_withZ hL) h.ok hc, fun _ => ?_⟩
  · rw [List.nodup_append]
    exact ⟨h.nodup, by simp, fun a ha b hb e => by rw [List.mem_singleton] at hb; subst hb; subst e; exact hn ha⟩
  · rw [List.mem_append, List.mem_singleton] at hx
    rcases hx with hx | rfl
    · exact h.filt x hx
    · exact hf
  · exact sub_full ((hh (lv f) s).2 ⟨f, by simp, rfl⟩)
/-- Without a pair. -/
def woP (P : List Pr) (x : Pr) : List Pr := P.filter fun y => y != x
theorem mem_woP {P : List Pr} {x y : Pr} : y ∈ woP P x ↔ y ∈ P ∧ y ≠ x := by simp [woP]
theorem woP_len {P : List Pr} {x : Pr} (hn : P.Nodup) (hx : x ∈ P) : (woP P x).length + 1 = P.length := by
  induction P with
  | nil => simp at hx
  | cons y P ih =>
    obtain ⟨h1, h2⟩ := List.nodup_cons.1 hn
    by_cases e : y = x
    · subst e
      have : woP (y :: P) y = P := by
        rw [woP, List.filter_cons_of_neg (by simp)]
        exact List.filter_eq_self.2 fun z hz => by simp; rintro rfl; exact h1 hz
      rw [this, List.length_cons]
    · have hx' : x ∈ P := by rcases List.mem_cons.1 hx with h | h; exact absurd h.symm e; exact h
      have e2 : woP (y :: P) x = y :: woP P x := by rw [woP, List.filter_cons_of_pos (by simp [e])]; rfl
      rw [e2, List.length_cons, List.length_cons, ih h2 hx']
def rootZ (o : Nd) : Nd := if bareB (ndL o) (ndF o) then none else o
theorem root_sub (o : Nd) (p : List Key) : subZ (rootZ o) p = subZ o p := by
  unfold rootZ
  split
  · rename_i hb
    rw [sub_none]
    obtain ⟨h1, h2⟩ := (bareB_iff _ _).1 hb
    cases o with
    | none => rw [sub_none]
    | some x =>
      obtain ⟨b, L, F⟩ := x
      obtain rfl : L = [] := h1
      obtain rfl : F = .nil := h2
      exact (sub_bare b p).symm
  · rfl
theorem TrOk.dropd (h : TrOk o P) (hc : Chg (woZ s) (lv f) o o') : TrOk (rootZ o') (woP P (f, s)) := by
  have hs := chg_sub hc
  have hok := chg_ok (fun L hL => up_woZ hL) h.ok hc
  have hh : ∀ p s', s' ∈ subZ (rootZ o') p ↔ ∃ g, (g, s') ∈ woP P (f, s) ∧ lv g = p := fun p s' => by
    rw [root_sub, hs p]
    by_cases e : p = lv f
    · subst e
      rw [if_pos rfl, mem_woZ]
      constructor
      · rintro ⟨h1, h2⟩
        exact ⟨f, mem_woP.2 ⟨h.mem.1 h1, fun e => h2 (by injection e)⟩, rfl⟩
      · rintro ⟨g, hg, eg⟩
        rw [lv_inj eg] at hg
        obtain ⟨h1, h2⟩ := mem_woP.1 hg
        exact ⟨h.mem.2 h1, fun e => h2 (by rw [e])⟩
    · rw [if_neg e, h.has]
      constructor
      · rintro ⟨g, hg, eg⟩
        exact ⟨g, mem_woP.2 ⟨hg, fun x => e (by injection x with x1 x2; rw [← eg, x1])⟩, eg⟩
      · rintro ⟨g, hg, eg⟩
        exact ⟨g, (mem_woP.1 hg).1, eg⟩
  refine ⟨h.nodup.filter _, fun x hx => h.filt x (mem_woP.1 hx).1, hh, ?_, ?_⟩
  · unfold rootZ
    split
    · exact okN_none
    · exact hok
  · unfold rootZ
    split
    · exact fun h => absurd rfl h
    · rename_i hb
      intro _
      rw [bareB_iff] at hb
      by_cases h1 : ndL o' = []
      · exact .inr fun h2 => hb ⟨h1, h2⟩
      · exact .inl h1

/-- Whom a topic reaches. -/
def reachZ (t : Key) (o : Nd) : List Int := if apartZ t then gath (lv t).tail ((ndF o).get ((lv t).headD [])) else gath (lv t) o
def mzP (P : List Pr) (t : Key) : List Int := (P.filter fun x => matchZ x.1 t).map fun x => x.2
theorem mem_mzP {P : List Pr} {t : Key} {s : Int} : s ∈ mzP P t ↔ ∃ f, (f, s) ∈ P ∧ matchZ f t = true := by
  simp only [mzP, List.mem_map, List.mem_filter]
  constructor
  · rintro ⟨x, ⟨h1, h2⟩, rfl⟩; exact ⟨x.1, h1, h2⟩
  · rintro ⟨f, h1, h2⟩; exact ⟨(f, s), ⟨h1, h2⟩, rfl⟩
theorem TrOk.reach (h : TrOk o P) {t : Key} (ht : topicZ t = true) (s : Int) : s ∈ reachZ t o ↔ s ∈ mzP P t := by
  have hT : ∀ y ∈ lv t, y ≠ [35] := topic_no_hash t ht
  have hT2 : ∀ y ∈ lv t, y ≠ [43] := topic_no_plus t ht
  rw [mem_mzP]
  unfold reachZ
  split
  · rename_i ha
    obtain ⟨y, r, e⟩ := List.exists_cons_of_ne_nil (lv_ne t)
    have hy : y ≠ [35] := hT y (by rw [e]; simp)
    have hy2 : y ≠ [43] := hT2 y (by rw [e]; simp)
    rw [e, List.tail_cons, List.headD_cons, mem_gath]
    have hr : ∀ z ∈ r, z ≠ [35] := fun z hz => hT z (by rw [e]; simp [hz])
    constructor
    · rintro ⟨p, hp, hs⟩
      rw [← sub_cons, h.has] at hs
      obtain ⟨f, hf, ef⟩ := hs
      have hfl := filterZ_levels (h.filt _ hf)
      rw [ef] at hfl
      have hpl : levelsOk p = true := by rw [levelsOk, Bool.and_eq_true] at hfl; exact hfl.2
      refine ⟨f, hf, ?_⟩
      have hw : wildZ f = false := by rw [wild_first f y p ef]; simp [hy, hy2]
      rw [matchZ, ht, coversZ, h.filt _ hf, filter_of_topic t ht, hw, ef, e, coversL_cons hy, alikeZ_self]
      simpa using (mt_covers hpl hr).1 hp
    · rintro ⟨f, hf, hm⟩
      rw [matchZ, coversZ] at hm
      simp only [Bool.and_eq_true, Bool.not_eq_true', ha, Bool.and_true] at hm
      obtain ⟨_, ⟨⟨_, _⟩, hw⟩, hc⟩ := hm
      obtain ⟨k, q, ef⟩ := List.exists_cons_of_ne_nil (lv_ne f)
      rw [wild_first f k q ef] at hw
      have hk : k ≠ [35] := by rintro rfl; simp at hw
      have hk2 : k ≠ [43] := by rintro rfl; simp at hw
      have hfl := filterZ_levels (h.filt _ hf)
      rw [ef] at hfl hc
      have hql : levelsOk q = true := by rw [levelsOk, Bool.and_eq_true] at hfl; exact hfl.2
      rw [e, coversL_cons hk, Bool.and_eq_true] at hc
      have hky : k = y := by
        have := hc.1
        unfold alikeZ at this
        simpa [hk2] using this
      subst hky
      exact ⟨q, (mt_covers hql hr).2 hc.2, by rw [← sub_cons, h.has]; exact ⟨f, hf, ef⟩⟩
  · rename_i ha
    rw [mem_gath]
    constructor
    · rintro ⟨p, hp, hs⟩
      rw [h.has] at hs
      obtain ⟨f, hf, ef⟩ := hs
      have hfl := filterZ_levels (h.filt _ hf)
      refine ⟨f, hf, ?_⟩
      have ha' : apartZ t = false := by simpa using ha
      rw [matchZ, ht, coversZ, h.filt _ hf, filter_of_topic t ht, ha', ef]
      rw [ef] at hfl
      simpa using (mt_covers hfl hT).1 hp
    · rintro ⟨f, hf, hm⟩
      rw [matchZ, coversZ] at hm
      simp only [Bool.and_eq_true] at hm
      exact ⟨lv f, (mt_covers (filterZ_levels (h.filt _ hf)) hT).2 hm.2.2, (h.has _ _).2 ⟨f, hf, rfl⟩⟩
theorem TrOk.match_none {t : Key} (ht : topicZ t = false) : mzP P t = [] := by
  have : (P.filter fun x => matchZ x.1 t) = [] := List.filter_eq_nil_iff.2 fun x _ => by simp [matchZ, ht]
  rw [mzP, this]; rfl
theorem TrOk.ofZ (h : TrOk o P) {t : Key} (ht : topicZ t = true) : ofZ (reachZ t o) = ofZ (mzP P t) :=
  up_ext (ofZ_facts _).1 (ofZ_facts _).1 fun z => by rw [(ofZ_facts _).2, (ofZ_facts _).2, h.reach ht]
theorem TrOk.reach_len (h : TrOk o P) {t : Key} (ht : topicZ t = true) (hP : P.length ≤ 110) : (reachZ t o).length ≤ 1000000 := by
  have hT2 : ∀ y ∈ lv t, y ≠ [43] := topic_no_plus t ht
  have hs := h.small
  have key : ∀ (T : List Key) (o1 : Nd), (∀ p, (subZ o1 p).length ≤ P.length) → ndN o1 ≤ ndN o → (∀ y ∈ T, y ≠ [43]) → (gath T o1).length ≤ 1000000 := fun T o1 h1 h2 h3 => by
    have := gath_len h1 h3
    have h4 : 2 * P.length * ndN o1 ≤ 2 * P.length * (33 * P.length + 1) := Nat.mul_le_mul_left _ (by omega)
    have h5 : 2 * P.length * (33 * P.length + 1) ≤ 2 * 110 * (33 * 110 + 1) := Nat.mul_le_mul (by omega) (by omega)
    omega
  unfold reachZ
  split
  · refine key _ _ (fun p => h.len (_ :: p)) (kid_le _ o) fun y hy => hT2 y (List.mem_of_mem_tail hy)
  · exact key _ _ h.len (Nat.le_refl _) hT2
end
end Go.Proofs.Ytabgedmocdjkcaa
