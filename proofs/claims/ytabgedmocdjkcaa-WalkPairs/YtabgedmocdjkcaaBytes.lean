/- Plain facts on lists of bytes: what the levels of a text are, and what topics and filters are, as functions on lists; nothing here names the program. No conditions. -/
namespace Go.Proofs.Ytabgedmocdjkcaa

/-- Is a byte of this number among them? -/
def hasZ (l : List UInt8) (n : Int) : Bool := l.any fun b => (b.toNat : Int) == n
theorem hasZ_nil (n : Int) : hasZ [] n = false := rfl
theorem hasZ_cons (b : UInt8) (l : List UInt8) (n : Int) : hasZ (b :: l) n = (((b.toNat : Int) == n) || hasZ l n) := rfl
theorem hasZ_append (a b : List UInt8) (n : Int) : hasZ (a ++ b) n = (hasZ a n || hasZ b n) := by simp [hasZ]

/-- The levels of a text: what stands between its bytes 47. -/
def lv : List UInt8 → List (List UInt8)
  | [] => [[]]
  | b :: l => if b = 47 then [] :: lv l else match lv l with
    | [] => [[b]]
    | x :: r => (b :: x) :: r

theorem lv_ne (l : List UInt8) : lv l ≠ [] := by
  cases l with
  | nil => simp [lv]
  | cons b l =>
    unfold lv
    split
    · simp
    · split <;> simp

theorem lv_sep (l : List UInt8) : lv (47 :: l) = [] :: lv l := by simp [lv]

theorem lv_cons {b : UInt8} (h : b ≠ 47) {l x : List UInt8} {r : List (List UInt8)} (hl : lv l = x :: r) : lv (b :: l) = (b :: x) :: r := by
  rw [lv, if_neg h, hl]

/-- A text without a byte 47 is its one level. -/
theorem lv_plain : ∀ (l : List UInt8), 47 ∉ l → lv l = [l]
  | [], _ => rfl
  | b :: l, h => by
    have hb : b ≠ 47 := fun e => h (by simp [e])
    exact lv_cons hb (lv_plain l (fun e => h (List.mem_cons_of_mem _ e)))

/-- What stands ahead of the first byte 47 is the first level. -/
theorem lv_cut : ∀ (a b : List UInt8), 47 ∉ a → lv (a ++ 47 :: b) = a :: lv b
  | [], b, _ => lv_sep b
  | x :: a, b, h => by
    have hx : x ≠ 47 := fun e => h (by simp [e])
    exact lv_cons hx (lv_cut a b (fun e => h (List.mem_cons_of_mem _ e)))

/-- How often a byte comes (behind a name of its own). -/
def cntZ (l : List UInt8) (c : UInt8) : Nat := l.count c
theorem cntZ_le (l : List UInt8) (c : UInt8) : cntZ l c ≤ l.length := List.count_le_length

theorem lv_length : ∀ (l : List UInt8), (lv l).length = l.count 47 + 1
  | [] => rfl
  | b :: l => by
    have ih := lv_length l
    by_cases hb : b = 47
    · subst hb; rw [lv_sep]; simp [ih]
    · obtain ⟨x, r, e⟩ : ∃ x r, lv l = x :: r := by
        cases h : lv l with
        | nil => exact absurd h (lv_ne l)
        | cons x r => exact ⟨x, r, rfl⟩
      rw [lv_cons hb e, List.count_cons_of_ne (by simpa using hb), ← ih, e]; rfl

/-- No level is longer than the text. -/
theorem lv_mem_le : ∀ (l x : List UInt8), x ∈ lv l → x.length ≤ l.length
  | [], x, h => by simp [lv] at h; simp [h]
  | b :: l, x, h => by
    by_cases hb : b = 47
    · subst hb
      rw [lv_sep, List.mem_cons] at h
      rcases h with rfl | h
      · simp
      · have := lv_mem_le l x h; simp; omega
    · obtain ⟨y, r, e⟩ : ∃ y r, lv l = y :: r := by
        cases h : lv l with
        | nil => exact absurd h (lv_ne l)
        | cons y r => exact ⟨y, r, rfl⟩
      rw [lv_cons hb e, List.mem_cons] at h
      rcases h with rfl | h
      · have := lv_mem_le l y (by rw [e]; simp); simp; omega
      · have := lv_mem_le l x (by rw [e]; simp [h]); simp; omega

/-- One byte more at the end, a 47: one level more. -/
theorem lv_snoc_sep : ∀ (l : List UInt8), lv (l ++ [47]) = lv l ++ [[]]
  | [] => by simp [lv]
  | b :: l => by
    have ih := lv_snoc_sep l
    by_cases hb : b = 47
    · subst hb; rw [List.cons_append, lv_sep, lv_sep, ih]; rfl
    · obtain ⟨x, r, e⟩ : ∃ x r, lv l = x :: r := by
        cases h : lv l with
        | nil => exact absurd h (lv_ne l)
        | cons x r => exact ⟨x, r, rfl⟩
      rw [List.cons_append, lv_cons hb e, lv_cons hb (x := x) (r := r ++ [[]]) (by rw [ih, e]; rfl)]; rfl

/-- One byte more at the end, none of 47: the last level is one byte longer. -/
theorem lv_snoc {c : UInt8} (hc : c ≠ 47) : ∀ (l : List UInt8) (p : List (List UInt8)) (x : List UInt8), lv l = p ++ [x] → lv (l ++ [c]) = p ++ [x ++ [c]]
  | [], p, x, h => by
    have h' : p ++ [x] = [] ++ [([] : List UInt8)] := by rw [← h]; rfl
    obtain ⟨rfl, hx⟩ := List.append_inj' h' rfl
    obtain rfl : x = [] := by simpa using hx
    show lv [c] = [[c]]
    exact lv_plain _ (by simpa using fun e => hc e.symm)
  | b :: l, p, x, h => by
    obtain ⟨y, r, e⟩ : ∃ y r, lv l = y :: r := by
      cases h : lv l with
      | nil => exact absurd h (lv_ne l)
      | cons y r => exact ⟨y, r, rfl⟩
    by_cases hb : b = 47
    · subst hb
      rw [lv_sep] at h
      cases p with
      | nil =>
        rw [e] at h; simp at h
      | cons q p =>
        rw [List.cons_append] at h
        injection h with h1 h2
        rw [List.cons_append, lv_sep, lv_snoc hc l p x h2, ← h1]; rfl
    · rw [lv_cons hb e] at h
      cases p with
      | nil =>
        have h0 : (b :: y) :: r = [x] := h
        injection h0 with h1 h2
        subst h2
        rw [List.cons_append, lv_cons hb (x := y ++ [c]) (r := []) (lv_snoc hc l [] y e), ← h1]; rfl
      | cons q p =>
        rw [List.cons_append] at h
        injection h with h1 h2
        rw [List.cons_append, lv_cons hb (x := y) (r := p ++ [x ++ [c]]) (lv_snoc hc l (y :: p) x (by rw [e, h2]; rfl)), ← h1]; rfl

/-- The levels, a 47 between each two, are the text. -/
def joinZ : List (List UInt8) → List UInt8
  | [] => []
  | [x] => x
  | x :: y :: r => x ++ 47 :: joinZ (y :: r)
theorem joinZ_cons (x : List UInt8) {r : List (List UInt8)} (h : r ≠ []) : joinZ (x :: r) = x ++ 47 :: joinZ r := by
  cases r with
  | nil => exact absurd rfl h
  | cons y r => rfl
theorem joinZ_lv : ∀ (l : List UInt8), joinZ (lv l) = l
  | [] => rfl
  | b :: l => by
    have ih := joinZ_lv l
    by_cases hb : b = 47
    · subst hb; rw [lv_sep, joinZ_cons _ (lv_ne l), ih]; rfl
    · obtain ⟨x, r, e⟩ : ∃ x r, lv l = x :: r := by
        cases h : lv l with
        | nil => exact absurd h (lv_ne l)
        | cons x r => exact ⟨x, r, rfl⟩
      rw [lv_cons hb e]
      rw [e] at ih
      cases r with
      | nil => simp only [joinZ] at ih ⊢; rw [ih]
      | cons y r => simp only [joinZ] at ih ⊢; rw [← ih]; rfl
theorem joinZ_snoc (x : List UInt8) : ∀ (p : List (List UInt8)), p ≠ [] → joinZ (p ++ [x]) = joinZ p ++ 47 :: x
  | [], h => absurd rfl h
  | [y], _ => rfl
  | y :: z :: p, _ => by
    have ih := joinZ_snoc x (z :: p) (by simp)
    have e : joinZ (y :: z :: p ++ [x]) = y ++ 47 :: joinZ (z :: p ++ [x]) := joinZ_cons y (by simp)
    rw [e, ih, joinZ_cons y (by simp)]; simp

/-- What no level has, the text hasn't, and the other way, but for 47. -/
theorem hasZ_lv {n : Int} (hn : n ≠ 47) : ∀ (l : List UInt8), (lv l).any (fun x => hasZ x n) = hasZ l n
  | [] => rfl
  | b :: l => by
    have ih := hasZ_lv hn l
    by_cases hb : b = 47
    · subst hb
      rw [lv_sep, List.any_cons, ih, hasZ_nil, hasZ_cons]
      have : (((47 : UInt8).toNat : Int) == n) = false := by
        rw [beq_eq_false_iff_ne]; intro e; apply hn; rw [← e]; rfl
      rw [this]
    · obtain ⟨x, r, e⟩ : ∃ x r, lv l = x :: r := by
        cases h : lv l with
        | nil => exact absurd h (lv_ne l)
        | cons x r => exact ⟨x, r, rfl⟩
      rw [lv_cons hb e]
      rw [e] at ih
      rw [List.any_cons, hasZ_cons, hasZ_cons, ← ih, List.any_cons, Bool.or_assoc]

/-- Bytes that topics and filters may have, and how many. -/
def bytesOk (l : List UInt8) : Bool := decide (1 ≤ l.length) && decide (l.length ≤ 32) && !hasZ l 0
def markZ (l : List UInt8) : Bool := hasZ l 43 || hasZ l 35
def topicZ (l : List UInt8) : Bool := bytesOk l && !markZ l
/-- May a filter have this level, last or not? -/
def levelOk (x : List UInt8) (last : Bool) : Bool := if x = [43] then true else if x = [35] then last else !markZ x
/-- May it have all of these? -/
def levelsOk : List (List UInt8) → Bool
  | [] => true
  | x :: r => levelOk x r.isEmpty && levelsOk r
def filterZ (l : List UInt8) : Bool := bytesOk l && levelsOk (lv l)
def wildZ (l : List UInt8) : Bool := ((lv l).headD [] == [43]) || ((lv l).headD [] == [35])

/-- The document's own words on a level are the same. -/
theorem levelOk_eq (x : List UInt8) (last : Bool) : levelOk x last = !(hasZ x 43 && !(x == [43]) || hasZ x 35 && (!(x == [35]) || !last)) := by
  unfold levelOk markZ
  by_cases h1 : x = [43]
  · subst h1; cases last <;> decide
  · by_cases h2 : x = [35]
    · subst h2; cases last <;> decide
    · rw [if_neg h1, if_neg h2]
      have e1 : (x == [43]) = false := by simpa using h1
      have e2 : (x == [35]) = false := by simpa using h2
      rw [e1, e2]; simp

theorem levelsOk_iff : ∀ (L : List (List UInt8)), levelsOk L = true ↔ ∀ (k : Nat) x, L[k]? = some x → levelOk x (decide (k + 1 = L.length)) = true
  | [] => by simp [levelsOk]
  | x :: r => by
    rw [levelsOk, Bool.and_eq_true, levelsOk_iff r]
    have e : r.isEmpty = decide (0 + 1 = (x :: r).length) := by cases r <;> simp
    constructor
    · rintro ⟨h1, h2⟩ k y hy
      cases k with
      | zero => simp at hy; subst hy; rw [← e]; exact h1
      | succ k =>
        have := h2 k y (by simpa using hy)
        simpa using this
    · intro h
      refine ⟨?_, fun k y hy => ?_⟩
      · rw [e]; exact h 0 x (by simp)
      · have := h (k + 1) y (by simpa using hy)
        simpa using this

theorem levelsOk_bad (L : List (List UInt8)) (k : Nat) (x : List UInt8) (hx : L[k]? = some x) (h : levelOk x (decide (k + 1 = L.length)) = false) : levelsOk L = false := by
  cases e : levelsOk L with
  | false => rfl
  | true => rw [(levelsOk_iff L).1 e k x hx] at h; exact h
theorem levelsOk_all (L : List (List UInt8)) (h : ∀ (j : Nat) x, j < L.length → L[j]? = some x → levelOk x (decide (j + 1 = L.length)) = true) : levelsOk L = true :=
  (levelsOk_iff L).2 fun k x hx => h k x (List.getElem?_eq_some_iff.1 hx).1 hx
theorem allOk_step (L : List (List UInt8)) (k : Nat) (x : List UInt8) (hx : L[k]? = some x) (hok : levelOk x (decide (k + 1 = L.length)) = true)
    (h : ∀ (j : Nat) x, j < k → L[j]? = some x → levelOk x (decide (j + 1 = L.length)) = true) : ∀ (j : Nat) x, j < k + 1 → L[j]? = some x → levelOk x (decide (j + 1 = L.length)) = true := by
  intro j y hj hy
  by_cases e : j = k
  · subst e; rw [hx] at hy; injection hy with hy; rw [← hy]; exact hok
  · exact h j y (by omega) hy

theorem levelsOk_plain : ∀ (r : List (List UInt8)), r.any (fun x => hasZ x 43) = false → r.any (fun x => hasZ x 35) = false → levelsOk r = true
  | [], _, _ => rfl
  | x :: r, h1, h2 => by
    rw [List.any_cons, Bool.or_eq_false_iff] at h1 h2
    rw [levelsOk, levelsOk_plain r h1.2 h2.2, levelOk_eq, h1.1, h2.1]; rfl

/-- Each topic is a filter. -/
theorem filter_of_topic (l : List UInt8) (h : topicZ l = true) : filterZ l = true := by
  unfold topicZ markZ at h
  rw [Bool.and_eq_true, Bool.not_eq_true', Bool.or_eq_false_iff] at h
  obtain ⟨h0, h1, h2⟩ := h
  unfold filterZ
  rw [h0, levelsOk_plain _ (by rw [hasZ_lv (by decide)]; exact h1) (by rw [hasZ_lv (by decide)]; exact h2)]; rfl

/-- No topic begins with a sign. -/
theorem topic_not_wild (l : List UInt8) (h : topicZ l = true) : wildZ l = false := by
  unfold topicZ markZ at h
  rw [Bool.and_eq_true, Bool.not_eq_true', Bool.or_eq_false_iff] at h
  obtain ⟨_, h1, h2⟩ := h
  have k1 := hasZ_lv (n := 43) (by decide) l
  have k2 := hasZ_lv (n := 35) (by decide) l
  unfold wildZ
  cases e : lv l with
  | nil => exact absurd e (lv_ne l)
  | cons x r =>
    rw [e, h1, List.any_cons, Bool.or_eq_false_iff] at k1
    rw [e, h2, List.any_cons, Bool.or_eq_false_iff] at k2
    show ((x == [43]) || (x == [35])) = false
    rw [Bool.or_eq_false_iff]
    refine ⟨?_, ?_⟩
    · rw [beq_eq_false_iff_ne]; rintro rfl; exact absurd k1.1 (by decide)
    · rw [beq_eq_false_iff_ne]; rintro rfl; exact absurd k2.1 (by decide)

/-- What was joined, one level more. -/
theorem join_step (L : List (List UInt8)) (k : Nat) (hk : k < L.length) (h0 : 0 < k) : joinZ (L.take (k + 1)) = joinZ (L.take k) ++ 47 :: L[k] := by
  rw [List.take_succ_eq_append_getElem hk, joinZ_snoc _ _ (by intro e; rw [List.take_eq_nil_iff] at e; rcases e with e | e <;> simp_all)]
theorem join_first (L : List (List UInt8)) (hk : 0 < L.length) : joinZ (L.take (0 + 1)) = L[0] := by
  rw [List.take_succ_eq_append_getElem hk]; rfl

end Go.Proofs.Ytabgedmocdjkcaa
