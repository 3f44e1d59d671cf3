/- Plain facts on levels: which filter matches which topic and covers which filter, as functions on lists; nothing here names the program. No conditions. -/
import Derived.Test.YtabgedmocdjkcaaBytes
namespace Go.Proofs.Ytabgedmocdjkcaa

/-- Is one level, but #, like another one? -/
def alikeZ (a b : List UInt8) : Bool := (a == b) || ((a == [43]) && !(b == [35]))
/-- Levels of the one, one by one, like those of the other. -/
def coversL : List (List UInt8) → List (List UInt8) → Bool
  | [], g => g.isEmpty
  | x :: r, g => if x = [35] then true else match g with
    | [] => false
    | y :: s => alikeZ x y && coversL r s
/-- Does it begin with $? -/
def apartZ (l : List UInt8) : Bool := l.head? == some 36
def coversZ (a b : List UInt8) : Bool := filterZ a && filterZ b && !(wildZ a && apartZ b) && coversL (lv a) (lv b)
def matchZ (f t : List UInt8) : Bool := topicZ t && coversZ f t

theorem coversL_nil (g : List (List UInt8)) : coversL [] g = g.isEmpty := by simp [coversL]
theorem coversL_hash (r g : List (List UInt8)) : coversL ([35] :: r) g = true := by simp [coversL]
theorem coversL_none {x : List UInt8} (h : x ≠ [35]) (r : List (List UInt8)) : coversL (x :: r) [] = false := by simp [coversL, h]
theorem coversL_cons {x : List UInt8} (h : x ≠ [35]) (r : List (List UInt8)) (y : List UInt8) (s : List (List UInt8)) : coversL (x :: r) (y :: s) = (alikeZ x y && coversL r s) := by simp [coversL, h]
theorem alikeZ_self (x : List UInt8) : alikeZ x x = true := by simp [alikeZ]

theorem coversL_refl : ∀ (F : List (List UInt8)), coversL F F = true
  | [] => rfl
  | x :: r => by
    by_cases h : x = [35]
    · subst h; exact coversL_hash _ _
    · rw [coversL_cons h, alikeZ_self, coversL_refl r]; rfl

/-- One level further, on both sides. -/
theorem coversL_step (F G : List (List UInt8)) (k : Nat) (x y : List UInt8) (hx : F[k]? = some x) (hy : G[k]? = some y) (hn : x ≠ [35]) : coversL (F.drop k) (G.drop k) = (alikeZ x y && coversL (F.drop (k + 1)) (G.drop (k + 1))) := by
  obtain ⟨h1, e1⟩ := List.getElem?_eq_some_iff.1 hx
  obtain ⟨h2, e2⟩ := List.getElem?_eq_some_iff.1 hy
  rw [List.drop_eq_getElem_cons h1, List.drop_eq_getElem_cons h2, e1, e2, coversL_cons hn]
theorem coversL_at_hash (F G : List (List UInt8)) (k : Nat) (hx : F[k]? = some [35]) : coversL (F.drop k) (G.drop k) = true := by
  obtain ⟨h1, e1⟩ := List.getElem?_eq_some_iff.1 hx
  rw [List.drop_eq_getElem_cons h1, e1, coversL_hash]
theorem coversL_short (F G : List (List UInt8)) (k : Nat) (x : List UInt8) (hx : F[k]? = some x) (hn : x ≠ [35]) (hl : G.length ≤ k) : coversL (F.drop k) (G.drop k) = false := by
  obtain ⟨h1, e1⟩ := List.getElem?_eq_some_iff.1 hx
  rw [List.drop_eq_getElem_cons h1, e1, List.drop_eq_nil_of_le hl, coversL_none hn]
theorem coversL_end (F G : List (List UInt8)) (k : Nat) (hl : F.length ≤ k) : coversL (F.drop k) (G.drop k) = decide (G.length ≤ k) := by
  rw [List.drop_eq_nil_of_le hl, coversL_nil, Bool.eq_iff_iff, List.isEmpty_iff, List.drop_eq_nil_iff, decide_eq_true_iff]

/-- How many levels there are ahead of a last #. -/
def hashL (F : List (List UInt8)) : Bool := F.getLast? == some [35]
def aheadL (F : List (List UInt8)) : Nat := if hashL F then F.length - 1 else F.length
theorem hashL_cons {x : List UInt8} (h : x ≠ [35]) (r : List (List UInt8)) : hashL (x :: r) = hashL r := by
  unfold hashL
  cases r with
  | nil => simp [h]
  | cons y r => rw [List.getLast?_cons_cons]
theorem aheadL_cons {x : List UInt8} (h : x ≠ [35]) (r : List (List UInt8)) : aheadL (x :: r) = aheadL r + 1 := by
  unfold aheadL
  rw [hashL_cons h]
  cases e : hashL r with
  | false => simp
  | true =>
    cases r with
    | nil => simp [hashL] at e
    | cons y r => simp
theorem aheadL_le (F : List (List UInt8)) : aheadL F ≤ F.length := by unfold aheadL; split <;> omega

/-- What the document says on matching, of levels of a filter and of a topic. -/
theorem matches_iff : ∀ (F T : List (List UInt8)), levelsOk F = true → (∀ y, y ∈ T → y ≠ [35]) →
    (coversL F T = true ↔ (if hashL F then aheadL F ≤ T.length else T.length = aheadL F) ∧ ∀ i, i < aheadL F → F[i]? = some [43] ∨ F[i]? = T[i]?)
  | [], T, _, _ => by simp [coversL, hashL, aheadL]
  | x :: r, T, hF, hT => by
    rw [levelsOk, Bool.and_eq_true] at hF
    by_cases hx : x = [35]
    · subst hx
      have hr : r = [] := by
        have := hF.1
        unfold levelOk at this
        rw [if_neg (by decide), if_pos rfl, List.isEmpty_iff] at this
        exact this
      subst hr
      rw [coversL_hash]
      simp [hashL, aheadL]
    · rw [hashL_cons hx, aheadL_cons hx]
      cases T with
      | nil =>
        rw [coversL_none hx]
        refine ⟨fun h => by simp at h, fun h => ?_⟩
        have := h.1
        split at this <;> simp at this
      | cons y s =>
        rw [coversL_cons hx, Bool.and_eq_true, matches_iff r s hF.2 (fun z hz => hT z (List.mem_cons_of_mem _ hz))]
        have hy : y ≠ [35] := hT y (by simp)
        have ha : alikeZ x y = true ↔ (x = [43] ∨ x = y) := by
          unfold alikeZ
          simp [hy]
          exact or_comm
        have hl : (if hashL r = true then aheadL r + 1 ≤ (y :: s).length else (y :: s).length = aheadL r + 1) ↔ (if hashL r = true then aheadL r ≤ s.length else s.length = aheadL r) := by
          split <;> simp
        rw [hl, ha]
        constructor
        · rintro ⟨h1, h2, h3⟩
          refine ⟨h2, fun i hi => ?_⟩
          cases i with
          | zero => simpa using h1
          | succ i => simpa using h3 i (by omega)
        · rintro ⟨h2, h3⟩
          refine ⟨by simpa using h3 0 (by omega), h2, fun i hi => ?_⟩
          simpa using h3 (i + 1) (by omega)

/-- Topics have no level with a sign. -/
theorem topic_levels (l : List UInt8) (h : topicZ l = true) (y : List UInt8) (hy : y ∈ lv l) : hasZ y 43 = false ∧ hasZ y 35 = false := by
  unfold topicZ markZ at h
  rw [Bool.and_eq_true, Bool.not_eq_true', Bool.or_eq_false_iff] at h
  obtain ⟨_, h1, h2⟩ := h
  rw [← hasZ_lv (by decide), List.any_eq_false] at h1 h2
  exact ⟨by simpa using h1 y hy, by simpa using h2 y hy⟩
theorem topic_no_hash (l : List UInt8) (h : topicZ l = true) (y : List UInt8) (hy : y ∈ lv l) : y ≠ [35] := by
  rintro rfl; have := (topic_levels l h _ hy).2; simp [hasZ] at this
theorem topic_no_plus (l : List UInt8) (h : topicZ l = true) (y : List UInt8) (hy : y ∈ lv l) : y ≠ [43] := by
  rintro rfl; have := (topic_levels l h _ hy).1; simp [hasZ] at this

theorem bytesOk_len {l : List UInt8} (h : bytesOk l = true) : 1 ≤ l.length ∧ l.length ≤ 32 := by
  unfold bytesOk at h; rw [Bool.and_eq_true, Bool.and_eq_true] at h
  exact ⟨of_decide_eq_true h.1.1, of_decide_eq_true h.1.2⟩
theorem filterZ_bytes {l : List UInt8} (h : filterZ l = true) : bytesOk l = true := by unfold filterZ at h; rw [Bool.and_eq_true] at h; exact h.1
theorem topicZ_bytes {l : List UInt8} (h : topicZ l = true) : bytesOk l = true := by unfold topicZ at h; rw [Bool.and_eq_true] at h; exact h.1
theorem filterZ_levels {l : List UInt8} (h : filterZ l = true) : levelsOk (lv l) = true := by unfold filterZ at h; rw [Bool.and_eq_true] at h; exact h.2

/-- The first byte is that of the first level. -/
theorem apart_first (l x : List UInt8) (r : List (List UInt8)) (h : lv l = x :: r) : apartZ l = apartZ x := by
  unfold apartZ
  cases l with
  | nil => simp [lv] at h; rw [← h.1]
  | cons b l =>
    by_cases hb : b = 47
    · subst hb; rw [lv_sep] at h; injection h with h1 h2; subst h1; rfl
    · obtain ⟨y, q, e⟩ : ∃ y q, lv l = y :: q := by
        cases h : lv l with
        | nil => exact absurd h (lv_ne l)
        | cons x r => exact ⟨x, r, rfl⟩
      rw [lv_cons hb e] at h; injection h with h1 h2; subst h1; simp
theorem wild_first (l x : List UInt8) (r : List (List UInt8)) (h : lv l = x :: r) : wildZ l = ((x == [43]) || (x == [35])) := by
  unfold wildZ; rw [h]; rfl

/-- What covers, covers what is covered. -/
theorem coversL_trans : ∀ (F G T : List (List UInt8)), (∀ y, y ∈ T → y ≠ [35]) → coversL F G = true → coversL G T = true → coversL F T = true
  | [], G, T, _, h1, h2 => by
    rw [coversL_nil, List.isEmpty_iff] at h1; subst h1; exact h2
  | x :: r, G, T, hT, h1, h2 => by
    by_cases hx : x = [35]
    · subst hx; exact coversL_hash _ _
    · cases G with
      | nil => rw [coversL_none hx] at h1; exact absurd h1 (by decide)
      | cons y s =>
        rw [coversL_cons hx, Bool.and_eq_true] at h1
        have hy : y ≠ [35] := by
          rintro rfl
          have := h1.1; unfold alikeZ at this; simp [hx] at this
        cases T with
        | nil => rw [coversL_none hy] at h2; exact absurd h2 (by decide)
        | cons z u =>
          rw [coversL_cons hy, Bool.and_eq_true] at h2
          rw [coversL_cons hx, Bool.and_eq_true]
          refine ⟨?_, coversL_trans r s u (fun q hq => hT q (List.mem_cons_of_mem _ hq)) h1.2 h2.2⟩
          have hz : z ≠ [35] := hT z (by simp)
          have a1 := h1.1
          have a2 := h2.1
          unfold alikeZ at a1 a2 ⊢
          simp [hz, hy] at a1 a2 ⊢
          rcases a1 with rfl | rfl
          · exact a2
          · exact .inr rfl

/-- MatchCovers, first: what a filter covers matches nothing that it doesn't. -/
theorem covers_matches (f g t : List UInt8) (h1 : coversZ f g = true) (h2 : matchZ g t = true) : matchZ f t = true := by
  unfold matchZ at h2 ⊢
  rw [Bool.and_eq_true] at h2 ⊢
  obtain ⟨ht, h2⟩ := h2
  refine ⟨ht, ?_⟩
  unfold coversZ at h1 h2 ⊢
  simp only [Bool.and_eq_true, Bool.not_eq_true'] at h1 h2 ⊢
  obtain ⟨⟨⟨f1, f2⟩, f3⟩, f4⟩ := h1
  obtain ⟨⟨⟨g1, g2⟩, g3⟩, g4⟩ := h2
  refine ⟨⟨⟨f1, g2⟩, ?_⟩, coversL_trans _ _ _ (topic_no_hash t ht) f4 g4⟩
  cases hw : wildZ f with
  | false => rfl
  | true =>
    rw [hw, Bool.true_and] at f3
    rw [Bool.true_and]
    cases ha : apartZ t with
    | false => rfl
    | true =>
      rw [ha, Bool.and_true] at g3
      obtain ⟨y, s, ey⟩ : ∃ y s, lv g = y :: s := by
        cases h : lv g with
        | nil => exact absurd h (lv_ne g)
        | cons x r => exact ⟨x, r, rfl⟩
      obtain ⟨z, u, ez⟩ : ∃ z u, lv t = z :: u := by
        cases h : lv t with
        | nil => exact absurd h (lv_ne t)
        | cons x r => exact ⟨x, r, rfl⟩
      rw [wild_first g y s ey, Bool.or_eq_false_iff] at g3
      have hy1 : y ≠ [43] := by simpa using g3.1
      have hy2 : y ≠ [35] := by simpa using g3.2
      rw [ey, ez, coversL_cons hy2, Bool.and_eq_true] at g4
      have hyz : y = z := by
        have := g4.1; unfold alikeZ at this; simpa [hy1] using this
      rw [apart_first g y s ey, hyz, ← apart_first t z u ez, ha] at f3
      exact absurd f3 (by decide)
theorem covers_self (f : List UInt8) (h : filterZ f = true) (hw : wildZ f = false) : coversZ f f = true := by
  unfold coversZ; rw [h, hw, coversL_refl]; rfl
theorem match_self (t : List UInt8) (h : topicZ t = true) : matchZ t t = true := by
  unfold matchZ; rw [h, covers_self t (filter_of_topic t h) (topic_not_wild t h)]; rfl
theorem match_hash (t : List UInt8) (h : topicZ t = true) : matchZ [35] t = !apartZ t := by
  unfold matchZ coversZ
  rw [h, filter_of_topic t h, show filterZ [35] = true by decide, show wildZ [35] = true by decide, show lv [35] = [[35]] by decide, coversL_hash]
  simp

/-- The levels of levels that were joined are these. -/
theorem lv_joinZ : ∀ (M : List (List UInt8)), M ≠ [] → (∀ x, x ∈ M → (47 : UInt8) ∉ x) → lv (joinZ M) = M
  | [], h, _ => absurd rfl h
  | [x], _, h => lv_plain x (h x (by simp))
  | x :: y :: r, _, h => by
    rw [joinZ_cons x (by simp), lv_cut _ _ (h x (by simp)), lv_joinZ (y :: r) (by simp) (fun z hz => h z (List.mem_cons_of_mem _ hz))]
theorem lv_no_sep : ∀ (l x : List UInt8), x ∈ lv l → (47 : UInt8) ∉ x
  | [], x, h => by simp [lv] at h; simp [h]
  | b :: l, x, h => by
    by_cases hb : b = 47
    · subst hb
      rw [lv_sep, List.mem_cons] at h
      rcases h with rfl | h
      · simp
      · exact lv_no_sep l x h
    · obtain ⟨y, r, e⟩ : ∃ y r, lv l = y :: r := by
        cases h : lv l with
        | nil => exact absurd h (lv_ne l)
        | cons y r => exact ⟨y, r, rfl⟩
      rw [lv_cons hb e, List.mem_cons] at h
      rcases h with rfl | h
      · have := lv_no_sep l y (by rw [e]; simp)
        simp [this]; exact fun e => hb e.symm
      · exact lv_no_sep l x (by rw [e]; simp [h])

theorem hasZ_joinZ {n : Int} (hn : n ≠ 47) (M : List (List UInt8)) (h : M ≠ []) (hM : ∀ x, x ∈ M → (47 : UInt8) ∉ x) : hasZ (joinZ M) n = M.any fun x => hasZ x n := by
  rw [← hasZ_lv hn, lv_joinZ M h hM]
theorem joinZ_pos (M : List (List UInt8)) (h : M ≠ []) (hM : ∀ x, x ∈ M → (47 : UInt8) ∉ x) (x : List UInt8) (hx : x ∈ M) (hne : x ≠ []) : 1 ≤ (joinZ M).length := by
  cases e : joinZ M with
  | cons b l => simp
  | nil =>
    have := lv_joinZ M h hM
    rw [e] at this
    rw [← this] at hx
    simp [lv] at hx
    exact absurd hx hne
theorem levelOk_plain {y : List UInt8} (h : hasZ y 43 = false ∧ hasZ y 35 = false) (b : Bool) : levelOk y b = true := by
  rw [levelOk_eq, h.1, h.2]; rfl
theorem covers_set : ∀ (L : List (List UInt8)) (k : Nat), (∀ y, y ∈ L → y ≠ [35]) → coversL (L.set k [43]) L = true
  | [], k, _ => by simp [coversL]
  | x :: r, 0, h => by
    have hx : x ≠ [35] := h x (by simp)
    rw [List.set_cons_zero, coversL_cons (by decide), coversL_refl]
    unfold alikeZ; simp [hx]
  | x :: r, k + 1, h => by
    have hx : x ≠ [35] := h x (by simp)
    rw [List.set_cons_succ, coversL_cons hx, alikeZ_self, covers_set r k (fun y hy => h y (List.mem_cons_of_mem _ hy))]; rfl
theorem covers_take : ∀ (L : List (List UInt8)) (k : Nat), coversL (L.take k ++ [[35]]) L = true
  | L, 0 => by simp [coversL]
  | [], k + 1 => by simp [coversL]
  | x :: r, k + 1 => by
    rw [List.take_succ_cons, List.cons_append]
    by_cases h : x = [35]
    · subst h; exact coversL_hash _ _
    · rw [coversL_cons h, alikeZ_self, covers_take r k]; rfl

/-- A level + in the place of one of a topic's. -/
theorem match_plus (t : List UInt8) (ht : topicZ t = true) (k : Nat) (hk : k < (lv t).length) (hl : (joinZ ((lv t).set k [43])).length ≤ 32) :
    matchZ (joinZ ((lv t).set k [43])) t = (decide (0 < k) || !apartZ t) := by
  have hne : (lv t).set k [43] ≠ [] := by
    intro e; have := congrArg List.length e; simp at this; exact absurd this (lv_ne t)
  have hsep : ∀ x, x ∈ (lv t).set k [43] → (47 : UInt8) ∉ x := fun x hx => by
    rcases List.mem_or_eq_of_mem_set hx with h | rfl
    · exact lv_no_sep t x h
    · decide
  have hlv := lv_joinZ _ hne hsep
  have h0 : hasZ (joinZ ((lv t).set k [43])) 0 = false := by
    rw [hasZ_joinZ (by decide) _ hne hsep, List.any_eq_false]
    intro x hx
    rcases List.mem_or_eq_of_mem_set hx with h | rfl
    · have hb := topicZ_bytes ht
      unfold bytesOk at hb
      rw [Bool.and_eq_true, Bool.not_eq_true', ← hasZ_lv (by decide), List.any_eq_false] at hb
      exact hb.2 x h
    · decide
  have hin : [43] ∈ (lv t).set k [43] := List.mem_iff_getElem?.2 ⟨k, by rw [List.getElem?_set_self hk]⟩
  have hb : bytesOk (joinZ ((lv t).set k [43])) = true := by
    unfold bytesOk
    rw [h0, decide_eq_true (joinZ_pos _ hne hsep [43] hin (by decide)), decide_eq_true hl]; rfl
  have hlev : levelsOk ((lv t).set k [43]) = true := by
    rw [levelsOk_iff]
    intro j x hx
    rcases List.mem_or_eq_of_mem_set (List.mem_of_getElem? hx) with h | rfl
    · exact levelOk_plain (topic_levels t ht x h) _
    · rfl
  have hf : filterZ (joinZ ((lv t).set k [43])) = true := by unfold filterZ; rw [hb, hlv, hlev]; rfl
  have hw : wildZ (joinZ ((lv t).set k [43])) = decide (k = 0) := by
    unfold wildZ
    rw [hlv]
    cases e : lv t with
    | nil => exact absurd e (lv_ne t)
    | cons x r =>
      cases k with
      | zero => rfl
      | succ k =>
        rw [List.set_cons_succ]
        show ((x == [43]) || (x == [35])) = false
        have h1 := topic_no_plus t ht x (by rw [e]; simp)
        have h2 := topic_no_hash t ht x (by rw [e]; simp)
        simp [h1, h2]
  unfold matchZ coversZ
  rw [ht, hf, filter_of_topic t ht, hw, hlv, covers_set _ _ (topic_no_hash t ht)]
  cases k with
  | zero => simp
  | succ k => simp

/-- # in the place of a topic's last levels. -/
theorem match_rest (t : List UInt8) (ht : topicZ t = true) (k : Nat) (hk : k < (lv t).length) (hl : (joinZ ((lv t).take k ++ [[35]])).length ≤ 32) :
    matchZ (joinZ ((lv t).take k ++ [[35]])) t = (decide (0 < k) || !apartZ t) := by
  have hne : (lv t).take k ++ [[35]] ≠ [] := by simp
  have hmem : ∀ x, x ∈ (lv t).take k ++ [[35]] → x ∈ lv t ∨ x = [35] := fun x hx => by
    rw [List.mem_append] at hx
    rcases hx with h | h
    · exact .inl (List.mem_of_mem_take h)
    · exact .inr (by simpa using h)
  have hsep : ∀ x, x ∈ (lv t).take k ++ [[35]] → (47 : UInt8) ∉ x := fun x hx => by
    rcases hmem x hx with h | rfl
    · exact lv_no_sep t x h
    · decide
  have hlv := lv_joinZ _ hne hsep
  have h0 : hasZ (joinZ ((lv t).take k ++ [[35]])) 0 = false := by
    rw [hasZ_joinZ (by decide) _ hne hsep, List.any_eq_false]
    intro x hx
    rcases hmem x hx with h | rfl
    · have hb := topicZ_bytes ht
      unfold bytesOk at hb
      rw [Bool.and_eq_true, Bool.not_eq_true', ← hasZ_lv (by decide), List.any_eq_false] at hb
      exact hb.2 x h
    · decide
  have hb : bytesOk (joinZ ((lv t).take k ++ [[35]])) = true := by
    unfold bytesOk
    rw [h0, decide_eq_true (joinZ_pos _ hne hsep [35] (by simp) (by decide)), decide_eq_true hl]; rfl
  have hlev : levelsOk ((lv t).take k ++ [[35]]) = true := by
    rw [levelsOk_iff]
    intro j x hx
    by_cases hj : j < k
    · rw [List.getElem?_append_left (by simp; omega)] at hx
      exact levelOk_plain (topic_levels t ht x (List.mem_of_mem_take (List.mem_of_getElem? hx))) _
    · have hj2 : j < ((lv t).take k ++ [[35]]).length := (List.getElem?_eq_some_iff.1 hx).1
      have hjk : j = k := by simp at hj2; omega
      subst hjk
      rw [List.getElem?_append_right (by simp; omega)] at hx
      have hl2 : j + 1 = ((lv t).take j ++ [[35]]).length := by simp; omega
      rw [decide_eq_true hl2]
      have e : j - ((lv t).take j).length = 0 := by simp; omega
      rw [e] at hx
      simp at hx
      rw [← hx]; rfl
  have hf : filterZ (joinZ ((lv t).take k ++ [[35]])) = true := by unfold filterZ; rw [hb, hlv, hlev]; rfl
  have hw : wildZ (joinZ ((lv t).take k ++ [[35]])) = decide (k = 0) := by
    unfold wildZ
    rw [hlv]
    cases e : lv t with
    | nil => exact absurd e (lv_ne t)
    | cons x r =>
      cases k with
      | zero => rfl
      | succ k =>
        rw [List.take_succ_cons]
        show ((x == [43]) || (x == [35])) = false
        have h1 := topic_no_plus t ht x (by rw [e]; simp)
        have h2 := topic_no_hash t ht x (by rw [e]; simp)
        simp [h1, h2]
  unfold matchZ coversZ
  rw [ht, hf, filter_of_topic t ht, hw, hlv, covers_take]
  cases k with
  | zero => simp
  | succ k => simp

/-- Levels, each with a 47 behind it. -/
def tailZ : List (List UInt8) → List UInt8
  | [] => []
  | x :: r => x ++ 47 :: tailZ r
theorem tailZ_snoc (x : List UInt8) : ∀ (p : List (List UInt8)), tailZ (p ++ [x]) = tailZ p ++ x ++ [47]
  | [] => by simp [tailZ]
  | y :: p => by rw [List.cons_append, tailZ, tailZ_snoc x p, tailZ]; simp
theorem joinZ_tail (x : List UInt8) : ∀ (p : List (List UInt8)), joinZ (p ++ [x]) = tailZ p ++ x
  | [] => rfl
  | y :: p => by rw [List.cons_append, joinZ_cons y (by simp), joinZ_tail x p, tailZ]; simp

end Go.Proofs.Ytabgedmocdjkcaa
