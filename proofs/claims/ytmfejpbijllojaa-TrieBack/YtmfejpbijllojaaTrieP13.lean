/- Layer 13, plain: a trie's nodes and its pairs: who is where, how many nodes, whom a topic reaches. Nothing here names the program. -/
import Derived.Test.YtmfejpbijllojaaTrieM13
namespace Go.Proofs.Ytmfejpbijllojaa

/-- A pair: a filter's bytes and a subscriber. -/
abbrev Pr := Key × Int
theorem lv_inj {f g : Key} (h : lv f = lv g) : f = g := by rw [← joinZ_lv f, ← joinZ_lv g, h]
/-- All beginnings of a path, but the empty one. -/
def pres : List Key → List (List Key)
  | [] => []
  | k :: p => [k] :: (pres p).map (k :: ·)
theorem pres_len : ∀ p, (pres p).length = p.length
  | [] => rfl
  | k :: p => by simp [pres, pres_len p]
theorem mem_pres : ∀ {p q : List Key}, q ∈ pres p ↔ q ≠ [] ∧ q <+: p
  | [], q => by simp [pres]
  | k :: p, q => by
    cases q with
    | nil => simp [pres]
    | cons y r =>
      simp only [pres, List.mem_cons, List.mem_map, List.cons_prefix_cons]
      constructor
      · rintro (h | ⟨z, hz, h⟩)
        · injection h with h1 h2
          subst h1; subst h2
          exact ⟨by simp, rfl, List.nil_prefix⟩
        · injection h with h1 h2
          subst h1; subst h2
          exact ⟨by simp, rfl, (mem_pres.1 hz).2⟩
      · rintro ⟨_, rfl, h⟩
        by_cases hr : r = []
        · subst hr; exact .inl rfl
        · exact .inr ⟨r, mem_pres.2 ⟨hr, h⟩, rfl⟩
def allP (P : List Pr) : List (List Key) := P.flatMap fun x => pres (lv x.1)
theorem mem_allP {P : List Pr} {q : List Key} : q ∈ allP P ↔ q ≠ [] ∧ ∃ x ∈ P, q <+: lv x.1 := by
  simp only [allP, List.mem_flatMap, mem_pres]
  constructor
  · rintro ⟨x, hx, h1, h2⟩; exact ⟨h1, x, hx, h2⟩
  · rintro ⟨h1, x, hx, h2⟩; exact ⟨x, hx, h1, h2⟩
theorem nodup_le {α : Type} [DecidableEq α] : ∀ {a b : List α}, a.Nodup → (∀ x ∈ a, x ∈ b) → a.length ≤ b.length
  | [], _, _, _ => Nat.zero_le _
  | x :: a, b, hn, h => by
    obtain ⟨h1, h2⟩ := List.nodup_cons.1 hn
    have hx : x ∈ b := h x (by simp)
    have := nodup_le (b := b.erase x) h2 fun y hy => (List.mem_erase_of_ne (by rintro rfl; exact h1 hy)).2 (h y (by simp [hy]))
    rw [List.length_erase_of_mem hx] at this
    have hp := List.length_pos_of_mem hx
    rw [List.length_cons]; omega
/-- n is how many beginnings there are. -/
def SizeIs (P : List Pr) (n : Nat) : Prop := ∃ N : List (List Key), N.Nodup ∧ N.length = n ∧ ∀ q, q ∈ N ↔ q ∈ allP P
theorem SizeIs.le {P Q : List Pr} {n m : Nat} (h : SizeIs P n) (k : SizeIs Q m) (hs : ∀ x ∈ P, x ∈ Q) : n ≤ m := by
  obtain ⟨N, h1, rfl, h3⟩ := h
  obtain ⟨M, k1, rfl, k3⟩ := k
  refine nodup_le h1 fun q hq => (k3 q).2 ?_
  obtain ⟨hne, x, hx, hp⟩ := mem_allP.1 ((h3 q).1 hq)
  exact mem_allP.2 ⟨hne, x, hs x hx, hp⟩
theorem SizeIs.eq {P Q : List Pr} {n m : Nat} (h : SizeIs P n) (k : SizeIs Q m) (hs : ∀ x, x ∈ P ↔ x ∈ Q) : n = m :=
  Nat.le_antisymm (h.le k fun x hx => (hs x).1 hx) (k.le h fun x hx => (hs x).2 hx)
theorem SizeIs.join {P Q R : List Pr} {n m r : Nat} (h : SizeIs P n) (k : SizeIs Q m) (l : SizeIs R r) (hs : ∀ x ∈ R, x ∈ P ∨ x ∈ Q) : r ≤ n + m := by
  obtain ⟨N, h1, rfl, h3⟩ := h
  obtain ⟨M, k1, rfl, k3⟩ := k
  obtain ⟨O, l1, rfl, l3⟩ := l
  rw [← List.length_append]
  refine nodup_le l1 fun q hq => ?_
  obtain ⟨hne, x, hx, hp⟩ := mem_allP.1 ((l3 q).1 hq)
  rw [List.mem_append]
  rcases hs x hx with hx | hx
  · exact .inl ((h3 q).2 (mem_allP.2 ⟨hne, x, hx, hp⟩))
  · exact .inr ((k3 q).2 (mem_allP.2 ⟨hne, x, hx, hp⟩))
theorem allP_len {P : List Pr} {M : Nat} (h : ∀ x ∈ P, (lv x.1).length ≤ M) : (allP P).length ≤ M * P.length := by
  induction P with
  | nil => simp [allP]
  | cons x P ih =>
    have h1 := h x (by simp)
    have h2 := ih fun y hy => h y (by simp [hy])
    have e : allP (x :: P) = pres (lv x.1) ++ allP P := by simp [allP]
    rw [e, List.length_append, pres_len, List.length_cons, Nat.mul_succ]; omega

/-- All nodes of a forest, by their paths. -/
def Fo.nodes : Fo → List (List Key)
  | .nil => []
  | .cons k _ _ F R => [k] :: (F.nodes.map (k :: ·) ++ R.nodes)
theorem nodes_len : ∀ F : Fo, F.nodes.length = F.sz
  | .nil => rfl
  | .cons k b L F R => by
    simp only [Fo.nodes, Fo.sz, List.length_cons, List.length_append, List.length_map, nodes_len F, nodes_len R]; omega
theorem mem_nodes : ∀ {F : Fo}, F.ok → ∀ q, q ∈ F.nodes ↔ ∃ k p, q = k :: p ∧ atZ p (F.get k) ≠ none
  | .nil, _, q => by simp [Fo.nodes, Fo.get, at_none]
  | .cons k1 b L F R, h, q => by
    have iF := mem_nodes h.2.2.1
    have iR := mem_nodes h.2.2.2.1
    simp only [Fo.nodes, List.mem_cons, List.mem_append, List.mem_map]
    constructor
    · rintro (rfl | ⟨r, hr, rfl⟩ | hr)
      · exact ⟨k1, [], rfl, by simp [Fo.get, atZ]⟩
      · obtain ⟨k, p, rfl, hp⟩ := (iF r).1 hr
        exact ⟨k1, k :: p, rfl, by rw [Fo.get, if_pos rfl]; exact hp⟩
      · obtain ⟨k, p, rfl, hp⟩ := (iR q).1 hr
        refine ⟨k, p, rfl, ?_⟩
        have hne : k1 ≠ k := by
          rintro rfl
          rw [get_out (out_of h.2.2.2.2), at_none] at hp
          exact hp rfl
        rw [Fo.get, if_neg hne]; exact hp
    · rintro ⟨k, p, rfl, hp⟩
      by_cases e : k1 = k
      · subst e
        rw [Fo.get, if_pos rfl] at hp
        cases p with
        | nil => exact .inl rfl
        | cons k2 p => exact .inr (.inl ⟨k2 :: p, (iF _).2 ⟨k2, p, rfl, hp⟩, rfl⟩)
      · rw [Fo.get, if_neg e] at hp
        exact .inr (.inr ((iR _).2 ⟨k, p, rfl, hp⟩))
theorem nodes_nodup : ∀ {F : Fo}, F.ok → F.nodes.Nodup
  | .nil, _ => List.nodup_nil
  | .cons k1 b L F R, h => by
    have iF := nodes_nodup h.2.2.1
    have iR := nodes_nodup h.2.2.2.1
    have hR : ∀ p, k1 :: p ∉ R.nodes := fun p hp => by
      obtain ⟨k, p', e, hp'⟩ := (mem_nodes h.2.2.2.1 _).1 hp
      injection e with e1 e2
      subst e1
      rw [get_out (out_of h.2.2.2.2), at_none] at hp'
      exact hp' rfl
    refine List.nodup_cons.2 ⟨fun hm => ?_, List.nodup_append.2 ⟨?_, iR, ?_⟩⟩
    · rw [List.mem_append, List.mem_map] at hm
      rcases hm with ⟨r, hr, e⟩ | hm
      · obtain ⟨k, p, rfl, _⟩ := (mem_nodes h.2.2.1 _).1 hr
        cases e
      · exact hR [] hm
    · exact List.Pairwise.map _ (fun a b hab e => hab (by injection e)) iF
    · intro a ha b' hb' e
      subst e
      obtain ⟨r, _, rfl⟩ := List.mem_map.1 ha
      exact hR r hb'
def fullN (o : Nd) : Prop := o ≠ none → ndL o ≠ [] ∨ ndF o ≠ .nil
theorem full_has : ∀ {F : Fo}, F.ok → ∀ (b : Nat) (L : List Int), (L ≠ [] ∨ F ≠ .nil) → ∃ p s, s ∈ subZ (some (b, L, F)) p
  | .nil, _, b, L, h => by
    rcases h with h | h
    · obtain ⟨s, r, rfl⟩ := List.exists_cons_of_ne_nil h
      exact ⟨[], s, by simp [subZ, atZ, ndL]⟩
    · exact absurd rfl h
  | .cons k b1 L1 F R, hok, b, L, h => by
    obtain ⟨p, s, hs⟩ := full_has hok.2.2.1 b1 L1 hok.1
    exact ⟨k :: p, s, by rw [sub_cons]; simp only [ndF, Fo.get, if_pos]; exact hs⟩
theorem at_keeps : ∀ (p : List Key) {o : Nd}, okN o → fullN o → okN (atZ p o) ∧ fullN (atZ p o)
  | [], _, h1, h2 => ⟨h1, h2⟩
  | k :: p, o, h1, h2 => by
    refine at_keeps p (okN_get h1.2) ?_
    intro hne
    cases e : (ndF o).get k with
    | none => exact absurd e hne
    | some x => exact (get_ok h1.2 e).1

/-- A trie's root and its pairs. -/
structure TrOk (o : Nd) (P : List Pr) : Prop where
  nodup : P.Nodup
  filt : ∀ x ∈ P, filterZ x.1 = true
  has : ∀ p s, s ∈ subZ o p ↔ ∃ f, (f, s) ∈ P ∧ lv f = p
  ok : okN o
  full : fullN o
theorem trOk_nil : TrOk none [] := ⟨List.nodup_nil, fun x hx => by simp at hx, fun p s => by simp [sub_none], okN_none, fun h => absurd rfl h⟩
section
variable {o o' : Nd} {P : List Pr} {f : Key} {s : Int}
theorem TrOk.mem (h : TrOk o P) : s ∈ subZ o (lv f) ↔ (f, s) ∈ P := by
  rw [h.has]
  constructor
  · rintro ⟨g, hg, e⟩; rw [lv_inj e] at hg; exact hg
  · exact fun h => ⟨f, h, rfl⟩
theorem TrOk.up (h : TrOk o P) (p : List Key) : Up (subZ o p) := (at_keeps p h.ok h.full).1.1
theorem TrOk.len (h : TrOk o P) (p : List Key) : (subZ o p).length ≤ P.length := by
  have h1 : (subZ o p).Nodup := (h.up p).imp fun h => by omega
  have := nodup_le (b := P.map fun x => x.2) h1 fun s hs => by
    obtain ⟨f, hf, _⟩ := (h.has p s).1 hs
    exact List.mem_map.2 ⟨(f, s), hf, rfl⟩
  simpa using this
theorem TrOk.size (h : TrOk o P) : SizeIs P (ndN o - 1) := by
  have e : ndN o - 1 = (ndF o).nodes.length := by
    rw [nodes_len]
    cases o <;> simp [ndN, ndF, Fo.sz]
  refine ⟨(ndF o).nodes, nodes_nodup h.ok.2, e.symm, fun q => ?_⟩
  rw [mem_nodes h.ok.2, mem_allP]
  constructor
  · rintro ⟨k, p, rfl, hp⟩
    refine ⟨by simp, ?_⟩
    have hk := at_keeps (k :: p) h.ok h.full
    have e : atZ (k :: p) o = atZ p ((ndF o).get k) := rfl
    rw [e] at hk
    cases hn : atZ p ((ndF o).get k) with
    | none => exact absurd hn hp
    | some x =>
      rw [hn] at hk
      obtain ⟨r, s, hs⟩ := full_has hk.1.2 x.1 x.2.1 (hk.2 (by simp))
      have hs' : s ∈ subZ o (k :: p ++ r) := by
        rw [subZ, at_app, e, hn]; exact hs
      obtain ⟨f, hf, ef⟩ := (h.has _ _).1 hs'
      exact ⟨(f, s), hf, by rw [ef]; exact List.prefix_append _ _⟩
  · rintro ⟨hne, x, hx, r, hr⟩
    cases q with
    | nil => exact absurd rfl hne
    | cons k p =>
      refine ⟨k, p, rfl, fun hn => ?_⟩
      have hs := (h.mem (f := x.1) (s := x.2)).2 hx
      rw [← hr, subZ, at_app, show atZ (k :: p) o = atZ p ((ndF o).get k) from rfl, hn, at_none] at hs
      simp [ndL] at hs
theorem lv_small {f : Key} (h : filterZ f = true) : (lv f).length ≤ 33 := by
  have h1 := bytesOk_len (filterZ_bytes h)
  have h2 := lv_length f
  have h3 := cntZ_le f 47
  unfold cntZ at h3
  omega
theorem TrOk.small (h : TrOk o P) : ndN o ≤ 33 * P.length + 1 := by
  obtain ⟨N, h1, h2, h3⟩ := h.size
  have h4 := nodup_le h1 fun q hq => (h3 q).1 hq
  have h5 := allP_len (P := P) (M := 33) fun x hx => lv_small (h.filt x hx)
  omega
theorem TrOk.none_iff (h : TrOk o P) : o = none ↔ P = [] := by
  constructor
  · rintro rfl
    cases P with
    | nil => rfl
    | cons x P =>
      have := (h.mem (f := x.1) (s := x.2)).2 (by simp)
      rw [sub_none] at this; simp at this
  · rintro rfl
    cases o with
    | none => rfl
    | some x =>
      obtain ⟨p, s, hs⟩ := full_has h.ok.2 x.1 x.2.1 (h.full (by simp))
      obtain ⟨f, hf, _⟩ := (h.has p s).1 hs
      simp at hf
theorem chg_ne {h : List Int → List Int} {p : List Key} (hc : Chg h p o o') : o' ≠ none := by
  cases p with
  | nil => obtain ⟨b, rfl⟩ := hc; simp
  | cons k p => obtain ⟨b, _, _, _, _, rfl⟩ := hc; simp
/-- A pair more. -/
theorem TrOk.add (h : TrOk o P) (hf : filterZ f = true) (hn : (f, s) ∉ P) (hc : Chg (withZ s) (lv f) o o') : TrOk o' (P ++ [(f, s)]) := by
  have hs := chg_sub hc
  have hh : ∀ p s', s' ∈ subZ o' p ↔ ∃ g, (g, s') ∈ P ++ [(f, s)] ∧ lv g = p := fun p s' => by
    rw [hs p]
    by_cases e : p = lv f
    · subst e
      rw [if_pos rfl, mem_withZ]
      constructor
      · rintro (rfl | h1)
        · exact ⟨f, by simp, rfl⟩
        · exact ⟨f, by simp [h.mem.1 h1], rfl⟩
      · rintro ⟨g, hg, eg⟩
        rw [lv_inj eg] at hg
        rw [List.mem_append, List.mem_singleton] at hg
        rcases hg with hg | hg
        · exact .inr (h.mem.2 hg)
        · exact .inl (by injection hg)
    · rw [if_neg e, h.has]
      constructor
      · rintro ⟨g, hg, eg⟩; exact ⟨g, by simp [hg], eg⟩
      · rintro ⟨g, hg, eg⟩
        rw [List.mem_append, List.mem_singleton] at hg
        rcases hg with hg | hg
        · exact ⟨g, hg, eg⟩
        · injection hg with e1 e2
          exact absurd (by rw [← eg, e1]) e
  refine ⟨?_, fun x hx => ?_, hh, chg_ok (fun L hL => up_withZ hL) h.ok hc, fun _ => ?_⟩
  · rw [List.nodup_append]
    exact ⟨h.nodup, by simp, fun a ha b hb e => by rw [List.mem_singleton] at hb; subst hb; subst e; exact hn ha⟩
  · rw [List.mem_append, List.mem_singleton] at hx
    rcases hx with hx | rfl
    · exact h.filt x hx
    · exact hf
  · exact sub_full ((hh (lv f) s).2 ⟨f, by simp, rfl⟩)
/-- Without a pair. -/
def woP (P : List Pr) (x : Pr) : List Pr := P.filter fun y => y != x
theorem mem_woP {P : List Pr} {x y : Pr} : y ∈ woP P x ↔ y ∈ P ∧ y ≠ x := by simp [woP]
theorem woP_len {P : List Pr} {x : Pr} (hn : P.Nodup) (hx : x ∈ P) : (woP P x).length + 1 = P.length := by
  induction P with
  | nil => simp at hx
  | cons y P ih =>
    obtain ⟨h1, h2⟩ := List.nodup_cons.1 hn
    by_cases e : y = x
    · subst e
      have : woP (y :: P) y = P := by
        rw [woP, List.filter_cons_of_neg (by simp)]
        exact List.filter_eq_self.2 fun z hz => by simp; rintro rfl; exact h1 hz
      rw [this, List.length_cons]
    · have hx' : x ∈ P := by rcases List.mem_cons.1 hx with h | h; exact absurd h.symm e; exact h
      have e2 : woP (y :: P) x = y :: woP P x := by rw [woP, List.filter_cons_of_pos (by simp [e])]; rfl
      rw [e2, List.length_cons, List.length_cons, ih h2 hx']
def rootZ (o : Nd) : Nd := if bareB (ndL o) (ndF o) then none else o
theorem root_sub (o : Nd) (p : List Key) : subZ (rootZ o) p = subZ o p := by
  unfold rootZ
  split
  · rename_i hb
    rw [sub_none]
    obtain ⟨h1, h2⟩ := (bareB_iff _ _).1 hb
    cases o with
    | none => rw [sub_none]
    | some x =>
      obtain ⟨b, L, F⟩ := x
      obtain rfl : L = [] := h1
      obtain rfl : F = .nil := h2
      exact (sub_bare b p).symm
  · rfl
theorem TrOk.dropd (h : TrOk o P) (hc : Chg (woZ s) (lv f) o o') : TrOk (rootZ o') (woP P (f, s)) := by
  have hs := chg_sub hc
  have hok := chg_ok (fun L hL => up_woZ hL) h.ok hc
  have hh : ∀ p s', s' ∈ subZ (rootZ o') p ↔ ∃ g, (g, s') ∈ woP P (f, s) ∧ lv g = p := fun p s' => by
    rw [root_sub, hs p]
    by_cases e : p = lv f
    · subst e
      rw [if_pos rfl, mem_woZ]
      constructor
      · rintro ⟨h1, h2⟩
        exact ⟨f, mem_woP.2 ⟨h.mem.1 h1, fun e => h2 (by injection e)⟩, rfl⟩
      · rintro ⟨g, hg, eg⟩
        rw [lv_inj eg] at hg
        obtain ⟨h1, h2⟩ := mem_woP.1 hg
        exact ⟨h.mem.2 h1, fun e => h2 (by rw [e])⟩
    · rw [if_neg e, h.has]
      constructor
      · rintro ⟨g, hg, eg⟩
        exact ⟨g, mem_woP.2 ⟨hg, fun x => e (by injection x with x1 x2; rw [← eg, x1])⟩, eg⟩
      · rintro ⟨g, hg, eg⟩
        exact ⟨g, (mem_woP.1 hg).1, eg⟩
  refine ⟨h.nodup.filter _, fun x hx => h.filt x (mem_woP.1 hx).1, hh, ?_, ?_⟩
  · unfold rootZ
    split
    · exact okN_none
    · exact hok
  · unfold rootZ
    split
    · exact fun h => absurd rfl h
    · rename_i hb
      intro _
      rw [bareB_iff] at hb
      by_cases h1 : ndL o' = []
      · exact .inr fun h2 => hb ⟨h1, h2⟩
      · exact .inl h1

/-- Whom a topic reaches. -/
def reachZ (t : Key) (o : Nd) : List Int := if apartZ t then gath (lv t).tail ((ndF o).get ((lv t).headD [])) else gath (lv t) o
def mzP (P : List Pr) (t : Key) : List Int := (P.filter fun x => matchZ x.1 t).map fun x => x.2
theorem mem_mzP {P : List Pr} {t : Key} {s : Int} : s ∈ mzP P t ↔ ∃ f, (f, s) ∈ P ∧ matchZ f t = true := by
  simp only [mzP, List.mem_map, List.mem_filter]
  constructor
  · rintro ⟨x, ⟨h1, h2⟩, rfl⟩; exact ⟨x.1, h1, h2⟩
  · rintro ⟨f, h1, h2⟩; exact ⟨(f, s), ⟨h1, h2⟩, rfl⟩
theorem TrOk.reach (h : TrOk o P) {t : Key} (ht : topicZ t = true) (s : Int) : s ∈ reachZ t o ↔ s ∈ mzP P t := by
  have hT : ∀ y ∈ lv t, y ≠ [35] := topic_no_hash t ht
  have hT2 : ∀ y ∈ lv t, y ≠ [43] := topic_no_plus t ht
  rw [mem_mzP]
  unfold reachZ
  split
  · rename_i ha
    obtain ⟨y, r, e⟩ := List.exists_cons_of_ne_nil (lv_ne t)
    have hy : y ≠ [35] := hT y (by rw [e]; simp)
    have hy2 : y ≠ [43] := hT2 y (by rw [e]; simp)
    rw [e, List.tail_cons, List.headD_cons, mem_gath]
    have hr : ∀ z ∈ r, z ≠ [35] := fun z hz => hT z (by rw [e]; simp [hz])
    constructor
    · rintro ⟨p, hp, hs⟩
      rw [← sub_cons, h.has] at hs
      obtain ⟨f, hf, ef⟩ := hs
      have hfl := filterZ_levels (h.filt _ hf)
      rw [ef] at hfl
      have hpl : levelsOk p = true := by rw [levelsOk, Bool.and_eq_true] at hfl; exact hfl.2
      refine ⟨f, hf, ?_⟩
      have hw : wildZ f = false := by rw [wild_first f y p ef]; simp [hy, hy2]
      rw [matchZ, ht, coversZ, h.filt _ hf, filter_of_topic t ht, hw, ef, e, coversL_cons hy, alikeZ_self]
      simpa using (mt_covers hpl hr).1 hp
    · rintro ⟨f, hf, hm⟩
      rw [matchZ, coversZ] at hm
      simp only [Bool.and_eq_true, Bool.not_eq_true', ha, Bool.and_true] at hm
      obtain ⟨_, ⟨⟨_, _⟩, hw⟩, hc⟩ := hm
      obtain ⟨k, q, ef⟩ := List.exists_cons_of_ne_nil (lv_ne f)
      rw [wild_first f k q ef] at hw
      have hk : k ≠ [35] := by rintro rfl; simp at hw
      have hk2 : k ≠ [43] := by rintro rfl; simp at hw
      have hfl := filterZ_levels (h.filt _ hf)
      rw [ef] at hfl hc
      have hql : levelsOk q = true := by rw [levelsOk, Bool.and_eq_true] at hfl; exact hfl.2
      rw [e, coversL_cons hk, Bool.and_eq_true] at hc
      have hky : k = y := by
        have := hc.1
        unfold alikeZ at this
        simpa [hk2] using this
      subst hky
      exact ⟨q, (mt_covers hql hr).2 hc.2, by rw [← sub_cons, h.has]; exact ⟨f, hf, ef⟩⟩
  · rename_i ha
    rw [mem_gath]
    constructor
    · rintro ⟨p, hp, hs⟩
      rw [h.has] at hs
      obtain ⟨f, hf, ef⟩ := hs
      have hfl := filterZ_levels (h.filt _ hf)
      refine ⟨f, hf, ?_⟩
      have ha' : apartZ t = false := by simpa using ha
      rw [matchZ, ht, coversZ, h.filt _ hf, filter_of_topic t ht, ha', ef]
      rw [ef] at hfl
      simpa using (mt_covers hfl hT).1 hp
    · rintro ⟨f, hf, hm⟩
      rw [matchZ, coversZ] at hm
      simp only [Bool.and_eq_true] at hm
      exact ⟨lv f, (mt_covers (filterZ_levels (h.filt _ hf)) hT).2 hm.2.2, (h.has _ _).2 ⟨f, hf, rfl⟩⟩
theorem TrOk.match_none {t : Key} (ht : topicZ t = false) : mzP P t = [] := by
  have : (P.filter fun x => matchZ x.1 t) = [] := List.filter_eq_nil_iff.2 fun x _ => by simp [matchZ, ht]
  rw [mzP, this]; rfl
theorem TrOk.ofZ (h : TrOk o P) {t : Key} (ht : topicZ t = true) : ofZ (reachZ t o) = ofZ (mzP P t) :=
  up_ext (ofZ_facts _).1 (ofZ_facts _).1 fun z => by rw [(ofZ_facts _).2, (ofZ_facts _).2, h.reach ht]
theorem TrOk.reach_len (h : TrOk o P) {t : Key} (ht : topicZ t = true) (hP : P.length ≤ 110) : (reachZ t o).length ≤ 1000000 := by
  have hT2 : ∀ y ∈ lv t, y ≠ [43] := topic_no_plus t ht
  have hs := h.small
  have key : ∀ (T : List Key) (o1 : Nd), (∀ p, (subZ o1 p).length ≤ P.length) → ndN o1 ≤ ndN o → (∀ y ∈ T, y ≠ [43]) → (gath T o1).length ≤ 1000000 := fun T o1 h1 h2 h3 => by
    have := gath_len h1 h3
    have h4 : 2 * P.length * ndN o1 ≤ 2 * P.length * (33 * P.length + 1) := Nat.mul_le_mul_left _ (by omega)
    have h5 : 2 * P.length * (33 * P.length + 1) ≤ 2 * 110 * (33 * 110 + 1) := Nat.mul_le_mul (by omega) (by omega)
    omega
  unfold reachZ
  split
  · refine key _ _ (fun p => h.len (_ :: p)) (kid_le _ o) fun y hy => hT2 y (List.mem_of_mem_tail hy)
  · exact key _ _ h.len (Nat.le_refl _) hT2
end
end Go.Proofs.Ytmfejpbijllojaa
