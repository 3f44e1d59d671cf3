/- Layer 8: one list of places behind the other, as plain reckoning; of up to seven places these are all. · LinFinds: calls that were done one by one have an order, however they are listed, as plain reckoning. · LinOrders: what both sides come to, as plain reckoning. -/
import Derived.Test.YthngehpmoiojfaaCheckPlain8
import Derived.Test.YthngehpmoiojfaaDead8
namespace Go.Proofs.Ythngehpmoiojfaa
open Go.RowKit

/-- The last place ahead of a greater one, among the first k. -/
def kDown (o : List Int) : Nat → Int
  | 0 => -1
  | k + 1 => if o.getD (k + 1) 0 < o.getD k 0 then kDown o k else (k : Int)
def jDown (o : List Int) (x : Int) : Nat → Nat
  | 0 => 0
  | j + 1 => if o.getD (j + 1) 0 < x then jDown o x j else j + 1
def swapZ (o : List Int) (a b : Nat) : List Int := (o.set a (o.getD b 0)).set b (o.getD a 0)
def revZ : Nat → List Int → Nat → Nat → List Int
  | 0, o, _, _ => o
  | f + 1, o, a, b => if a < b then revZ f (swapZ o a b) (a + 1) (b - 1) else o
def kOf (o : List Int) : Int := kDown o (o.length - 1)
def jOf (o : List Int) : Nat := jDown o (o.getD (kOf o).toNat 0) (o.length - 1)
/-- The next list. -/
def nextZ (o : List Int) : List Int := revZ o.length (swapZ o (kOf o).toNat (jOf o)) ((kOf o).toNat + 1) (o.length - 1)
/-- Those that come, one behind the other. -/
def seqZ : Nat → List Int → List (List Int)
  | 0, _ => []
  | f + 1, o => o :: if kOf o < 0 then [] else seqZ f (nextZ o)
def upZ (n : Nat) : List Int := (List.range n).map fun i : Nat => (i : Int)
theorem swapZ_len (o : List Int) (a b : Nat) : (swapZ o a b).length = o.length := by simp [swapZ]
theorem revZ_len : ∀ (f : Nat) (o : List Int) (a b : Nat), (revZ f o a b).length = o.length
  | 0, o, a, b => rfl
  | f + 1, o, a, b => by
    unfold revZ
    split
    · rw [revZ_len f, swapZ_len]
    · rfl
theorem nextZ_len (o : List Int) : (nextZ o).length = o.length := by unfold nextZ; rw [revZ_len, swapZ_len]
theorem kDown_lt (o : List Int) : ∀ k, kDown o k < (k : Int)
  | 0 => by simp [kDown]
  | k + 1 => by
    unfold kDown
    split
    · have := kDown_lt o k; omega
    · omega
theorem kDown_ge (o : List Int) : ∀ k, -1 ≤ kDown o k
  | 0 => by simp [kDown]
  | k + 1 => by
    unfold kDown
    split
    · exact kDown_ge o k
    · omega
theorem kDown_up (o : List Int) : ∀ k, 0 ≤ kDown o k → o.getD (kDown o k).toNat 0 ≤ o.getD ((kDown o k).toNat + 1) 0
  | 0, h => by simp [kDown] at h
  | k + 1, h => by
    unfold kDown at h ⊢
    split
    · rename_i hc
      rw [if_pos hc] at h
      exact kDown_up o k h
    · simp only [Int.toNat_natCast]
      omega

theorem getD_mid (p : List Int) (x : Int) (q : List Int) : (p ++ x :: q).getD p.length 0 = x := by
  rw [List.getD_eq_getElem?_getD, List.getElem?_append_right (Nat.le_refl _), Nat.sub_self]; rfl
theorem getD_right (p q : List Int) (t : Nat) : (p ++ q).getD (p.length + t) 0 = q.getD t 0 := by
  rw [List.getD_eq_getElem?_getD, List.getElem?_append_right (by omega), ← List.getD_eq_getElem?_getD, Nat.add_sub_cancel_left]
/-- Falling. -/
def Fall (d : List Int) : Prop := d.Pairwise (fun a b => b < a)
theorem fall_at {d : List Int} (h : Fall d) {t : Nat} (ht : t + 1 < d.length) : d.getD (t + 1) 0 < d.getD t 0 := by
  have h1 := List.pairwise_iff_getElem.1 h t (t + 1) (by omega) ht (by omega)
  rw [getD_at ht, getD_at (by omega)]
  exact h1
theorem kDown_fall (p d : List Int) (h : Fall d) : ∀ t, t < d.length → kDown (p ++ d) (p.length + t) = kDown (p ++ d) p.length
  | 0, _ => rfl
  | t + 1, ht => by
    have h1 : kDown (p ++ d) (p.length + t + 1) = if (p ++ d).getD (p.length + t + 1) 0 < (p ++ d).getD (p.length + t) 0 then kDown (p ++ d) (p.length + t) else ((p.length + t : Nat) : Int) := rfl
    rw [if_pos (by rw [Nat.add_assoc, getD_right, getD_right]; exact fall_at h ht)] at h1
    exact h1.trans (kDown_fall p d h t (by omega))
theorem k_fall {d : List Int} (h : Fall d) : kOf d = -1 := by
  unfold kOf
  cases d with
  | nil => rfl
  | cons x d =>
    have := kDown_fall [] (x :: d) h d.length (by simp)
    simpa [kDown] using this
theorem k_mid (p : List Int) (x y : Int) (d : List Int) (h : Fall (y :: d)) (hxy : x < y) : kOf (p ++ x :: y :: d) = p.length := by
  unfold kOf
  have h1 := kDown_fall (p ++ [x]) (y :: d) h d.length (by simp)
  simp only [List.append_assoc, List.cons_append, List.nil_append, List.length_append, List.length_singleton] at h1
  rw [show (p ++ x :: y :: d).length - 1 = p.length + 1 + d.length by simp; omega, h1]
  unfold kDown
  rw [if_neg]
  rw [getD_right, getD_mid]
  show ¬ y < x
  omega
theorem jDown_mid (p A B : List Int) (x y : Int) (hxy : x < y) (hB : ∀ z ∈ B, z < x) : ∀ t, t ≤ B.length → jDown (p ++ x :: (A ++ y :: B)) x (p.length + 1 + A.length + t) = p.length + 1 + A.length
  | 0, _ => by
    show jDown _ x (p.length + 1 + A.length) = _
    rw [show p.length + 1 + A.length = p.length + A.length + 1 by omega]
    unfold jDown
    rw [if_neg]
    have := getD_right (p ++ x :: A) (y :: B) 0
    simp only [List.append_assoc, List.cons_append, List.length_append, List.length_cons, Nat.add_zero] at this
    rw [show p.length + A.length + 1 = p.length + (A.length + 1) by omega, this]
    show ¬ y < x
    omega
  | t + 1, ht => by
    show jDown _ x (p.length + 1 + A.length + t + 1) = _
    unfold jDown
    rw [if_pos]
    · exact jDown_mid p A B x y hxy hB t (by omega)
    · have := getD_right (p ++ x :: A) (y :: B) (t + 1)
      simp only [List.append_assoc, List.cons_append, List.length_append, List.length_cons] at this
      rw [show p.length + 1 + A.length + t + 1 = p.length + (A.length + 1) + (t + 1) by omega, this]
      show B.getD t 0 < x
      rw [getD_at (by omega)]
      exact hB _ (List.getElem_mem _)
theorem swap_mid (p A B : List Int) (x y : Int) : swapZ (p ++ x :: (A ++ y :: B)) p.length (p.length + 1 + A.length) = p ++ y :: (A ++ x :: B) := by
  unfold swapZ
  have h1 : (p ++ x :: (A ++ y :: B)).getD (p.length + 1 + A.length) 0 = y := by
    have := getD_right (p ++ x :: A) (y :: B) 0
    simp only [List.append_assoc, List.cons_append, List.length_append, List.length_cons, Nat.add_zero] at this
    rw [show p.length + 1 + A.length = p.length + (A.length + 1) by omega, this]
    rfl
  rw [h1, getD_mid]
  have h2 : (p ++ x :: (A ++ y :: B)).set p.length y = (p ++ y :: A) ++ y :: B := by
    rw [List.set_append_right _ _ (Nat.le_refl _), Nat.sub_self]
    simp
  rw [h2, List.set_append_right _ _ (by simp; omega)]
  rw [show p.length + 1 + A.length - (p ++ y :: A).length = 0 by simp; omega]
  simp
theorem rev_mid : ∀ (f : Nat) (p q t : List Int), q.length ≤ f → revZ f (p ++ q ++ t) p.length (p.length + q.length - 1) = p ++ q.reverse ++ t
  | 0, p, q, t, h => by
    have : q = [] := List.eq_nil_of_length_eq_zero (by omega)
    subst this
    simp [revZ]
  | f + 1, p, [], t, h => by
    unfold revZ
    rw [if_neg (by simp)]
    simp
  | f + 1, p, [z], t, h => by
    unfold revZ
    rw [if_neg (by simp)]
    simp
  | f + 1, p, u :: v :: r, t, h => by
    obtain ⟨M, z, e⟩ : ∃ M z, v :: r = M ++ [z] := ⟨(v :: r).dropLast, (v :: r).getLast (by simp), (List.dropLast_concat_getLast (by simp)).symm⟩
    rw [e] at h ⊢
    unfold revZ
    rw [if_pos (by simp only [List.length_cons, List.length_append, List.length_nil]; omega)]
    have h1 : swapZ (p ++ u :: (M ++ [z]) ++ t) p.length (p.length + (u :: (M ++ [z])).length - 1) = (p ++ [z]) ++ M ++ (u :: t) := by
      have := swap_mid p M t u z
      simp only [List.append_assoc, List.cons_append, List.nil_append, List.length_append, List.length_cons, List.length_nil] at this ⊢
      rw [show p.length + (M.length + (0 + 1) + 1) - 1 = p.length + 1 + M.length by omega]
      exact this
    rw [h1]
    have h2 := rev_mid f (p ++ [z]) M (u :: t) (by simp at h; omega)
    simp only [List.length_append, List.length_cons, List.length_nil] at h2 ⊢
    rw [show p.length + (M.length + (0 + 1) + 1) - 1 - 1 = p.length + (0 + 1) + M.length - 1 by omega]
    rw [h2]
    simp
/-- The next list, where the last place ahead of a greater one is known. -/
theorem next_mid (p A B : List Int) (x y : Int) (h : Fall (A ++ y :: B)) (hxy : x < y) (hB : ∀ z ∈ B, z < x) : kOf (p ++ x :: (A ++ y :: B)) = p.length ∧ nextZ (p ++ x :: (A ++ y :: B)) = p ++ y :: (A ++ x :: B).reverse := by
  have hk : kOf (p ++ x :: (A ++ y :: B)) = p.length := by
    cases A with
    | nil => exact k_mid p x y B h hxy
    | cons a A =>
      refine k_mid p x a (A ++ y :: B) h ?_
      have := (List.pairwise_cons.1 h).1 y (by simp)
      omega
  refine ⟨hk, ?_⟩
  unfold nextZ jOf
  rw [hk, Int.toNat_natCast, getD_mid]
  have hj := jDown_mid p A B x y hxy hB B.length (Nat.le_refl _)
  rw [show (p ++ x :: (A ++ y :: B)).length - 1 = p.length + 1 + A.length + B.length by simp; omega, hj, swap_mid]
  have := rev_mid (p ++ x :: (A ++ y :: B)).length (p ++ [y]) (A ++ x :: B) [] (by simp; omega)
  simp only [List.append_assoc, List.cons_append, List.nil_append, List.append_nil, List.length_append, List.length_cons, List.length_nil] at this ⊢
  rw [show p.length + 1 + A.length + B.length = p.length + (0 + 1) + (A.length + (B.length + 1)) - 1 by omega]
  exact this

/-- Rising. -/
def Rise (d : List Int) : Prop := d.Pairwise (fun a b => a < b)
theorem rise_fall {d : List Int} (h : Rise d) : Fall d.reverse := List.pairwise_reverse.2 h
theorem filter_mid {X Y : List Int} {i : Int} (h : Rise (X ++ i :: Y)) : (X ++ i :: Y).filter (· != i) = X ++ Y := by
  have h1 := List.pairwise_append.1 h
  rw [List.filter_append, List.filter_cons_of_neg (by simp)]
  congr 1
  · rw [List.filter_eq_self]
    intro a ha
    have := h1.2.2 a ha i (by simp)
    simp; omega
  · rw [List.filter_eq_self]
    intro a ha
    have := (List.pairwise_cons.1 h1.2.1).1 a ha
    simp; omega
theorem rise_without {X Y : List Int} {i : Int} (h : Rise (X ++ i :: Y)) : Rise (X ++ Y) := h.sublist (List.Sublist.append (List.Sublist.refl _) (List.sublist_cons_self _ _))
/-- What comes behind the last list of a part. -/
def restZ (f : Nat) (o : List Int) : List (List Int) := if kOf o < 0 then [] else seqZ f (nextZ o)
def permsFrom (n : Nat) (R Y : List Int) : List (List Int) := Y.flatMap fun i => (permsOf n (R.filter (· != i))).map (i :: ·)
theorem seq_goes : ∀ (n : Nat) (R : List Int), Rise R → R.length = n → ∀ (p : List Int) (f : Nat), seqZ ((permsOf n R).length + f) (p ++ R) = (permsOf n R).map (p ++ ·) ++ restZ f (p ++ R.reverse)
  | 0, R, _, hR, p, f => by
    have : R = [] := List.eq_nil_of_length_eq_zero hR
    subst this
    show seqZ (1 + f) (p ++ []) = [p ++ []] ++ restZ f (p ++ [])
    rw [Nat.add_comm]
    rfl
  | n + 1, R, hr, hR, p, f => by
    have key : ∀ (Y X : List Int) (i : Int), R = X ++ i :: Y → seqZ ((permsFrom n R (i :: Y)).length + f) (p ++ i :: (X ++ Y)) = (permsFrom n R (i :: Y)).map (p ++ ·) ++ restZ f (p ++ R.reverse) := by
      intro Y
      induction Y with
      | nil =>
        intro X i e
        have hr' : Rise (X ++ i :: []) := e ▸ hr
        have hw := rise_without hr'
        have hl : (X ++ ([] : List Int)).length = n := by rw [e] at hR; simp at hR ⊢; omega
        have ih := seq_goes n (X ++ []) hw hl (p ++ [i]) f
        have hp : permsFrom n R [i] = (permsOf n (X ++ [])).map (i :: ·) := by
          unfold permsFrom
          rw [List.flatMap_cons, List.flatMap_nil, List.append_nil, e, filter_mid hr']
        rw [hp, List.length_map]
        simp only [List.append_assoc, List.cons_append, List.nil_append, List.append_nil] at ih ⊢
        rw [ih, List.map_map, e]
        simp
      | cons y Y ihY =>
        intro X i e
        have hr' : Rise (X ++ i :: (y :: Y)) := e ▸ hr
        have hw := rise_without hr'
        have hl : (X ++ y :: Y).length = n := by rw [e] at hR; simp at hR ⊢; omega
        have h1 := List.pairwise_append.1 hr'
        have hiy : i < y := (List.pairwise_cons.1 h1.2.1).1 y (by simp)
        have ih := seq_goes n (X ++ y :: Y) hw hl (p ++ [i]) ((permsFrom n R (y :: Y)).length + f)
        have hp : permsFrom n R (i :: y :: Y) = (permsOf n (X ++ y :: Y)).map (i :: ·) ++ permsFrom n R (y :: Y) := by
          show (permsOf n (R.filter (· != i))).map (i :: ·) ++ permsFrom n R (y :: Y) = _
          rw [show R.filter (· != i) = X ++ y :: Y from by rw [e]; exact filter_mid hr']
        have hf : Fall (Y.reverse ++ y :: X.reverse) := by
          have := rise_fall hw
          simpa using this
        have hn := next_mid p Y.reverse X.reverse i y hf hiy (fun z hz => h1.2.2 z (by simpa using hz) i (by simp))
        have hrest : restZ ((permsFrom n R (y :: Y)).length + f) (p ++ i :: (Y.reverse ++ y :: X.reverse)) = seqZ ((permsFrom n R (y :: Y)).length + f) (p ++ y :: ((X ++ [i]) ++ Y)) := by
          unfold restZ
          rw [hn.1, if_neg (by omega), hn.2]
          simp
        have e2 : p ++ [i] ++ (X ++ y :: Y).reverse = p ++ i :: (Y.reverse ++ y :: X.reverse) := by simp
        rw [e2, hrest, ihY (X ++ [i]) y (by rw [e]; simp)] at ih
        rw [hp, List.length_append, List.length_map, Nat.add_assoc]
        have e3 : p ++ [i] ++ (X ++ y :: Y) = p ++ i :: (X ++ y :: Y) := by simp
        rw [e3] at ih
        rw [ih, List.map_append, List.map_map, List.append_assoc]
        congr 1
        apply List.map_congr_left
        intro r _
        simp
    cases R with
    | nil => simp at hR
    | cons i Y => exact key Y [] i rfl
def factZ : Nat → Nat
  | 0 => 1
  | n + 1 => (n + 1) * factZ n
theorem sum_const {α : Type} (c : Nat) : ∀ l : List α, (l.map fun _ => c).sum = l.length * c
  | [] => by simp
  | x :: l => by rw [List.map_cons, List.sum_cons, sum_const c l, List.length_cons, Nat.add_mul, Nat.one_mul, Nat.add_comm]
theorem perms_len : ∀ (n : Nat) (R : List Int), Rise R → R.length = n → (permsOf n R).length = factZ n
  | 0, R, _, _ => rfl
  | n + 1, R, hr, hR => by
    rw [permsOf, List.length_flatMap]
    have : R.map (fun i => ((permsOf n (R.filter (· != i))).map (i :: ·)).length) = R.map fun _ => factZ n := by
      apply List.map_congr_left
      intro i hi
      obtain ⟨X, Y, e⟩ := List.append_of_mem hi
      have hr' : Rise (X ++ i :: Y) := e ▸ hr
      rw [List.length_map, show R.filter (· != i) = X ++ Y from by rw [e]; exact filter_mid hr']
      exact perms_len n _ (rise_without hr') (by rw [e] at hR; simp at hR ⊢; omega)
    rw [this, sum_const, hR]
    rfl
theorem up_rise (n : Nat) : Rise (upZ n) := by
  unfold Rise upZ
  rw [List.pairwise_map]
  exact List.pairwise_lt_range.imp (fun h => by omega)
theorem up_len (n : Nat) : (upZ n).length = n := by simp [upZ]
theorem seq_all (n : Nat) (h : n ≤ 7) : seqZ 5041 (upZ n) = permsOf n (upZ n) := by
  have h1 := perms_len n (upZ n) (up_rise n) (up_len n)
  have h2 : factZ n ≤ 5041 := by
    have : n = 0 ∨ n = 1 ∨ n = 2 ∨ n = 3 ∨ n = 4 ∨ n = 5 ∨ n = 6 ∨ n = 7 := by omega
    rcases this with rfl | rfl | rfl | rfl | rfl | rfl | rfl | rfl <;> decide
  have h3 := seq_goes n (upZ n) (up_rise n) (up_len n) [] (5041 - factZ n)
  rw [h1, show factZ n + (5041 - factZ n) = 5041 by omega] at h3
  simp only [List.nil_append] at h3
  rw [h3]
  unfold restZ
  rw [k_fall (rise_fall (up_rise n)), if_pos (by decide)]
  simp
theorem undone_none (L : List CallZ) (k : Nat) : undoneTo (List.replicate k false) L.length = upZ L.length := by
  unfold undoneTo upZ
  congr 1
  rw [List.filter_eq_self]
  intro i _
  rw [doneB_replicate]
  rfl
/-- Of up to seven calls, those lists that are orders are all orders. -/
theorem all_orders {S : Type} (m : MachZ S) (L : List CallZ) (hL : L.length ≤ 7) (s : S) {k : Nat} (hk : L.length ≤ k) : (seqZ 5041 (upZ L.length)).filter (refCheckZ m L s) = conts m L L.length (List.replicate k false) s := by
  rw [conts_agree m L L.length s (agree_none L hk (Nat.le_refl _)), seq_all _ hL, ← perms_filter m L L.length (List.replicate L.length false) s (by simp) (nU_none L _), undone_none]
  apply List.filter_congr
  intro r hr
  have hlen : ∀ (n : Nat) (R : List Int), ∀ r ∈ permsOf n R, r.length = n := by
    intro n
    induction n with
    | zero => intro R r hr; simp [permsOf] at hr; rw [hr]; rfl
    | succ n ih =>
      intro R r hr
      simp only [permsOf, List.mem_flatMap, List.mem_map] at hr
      obtain ⟨i, _, r', h', rfl⟩ := hr
      rw [List.length_cons, ih _ _ h']
  unfold refCheckZ
  rw [hlen _ _ r hr]
  simp

end Go.Proofs.Ythngehpmoiojfaa

namespace Go.Proofs.Ythngehpmoiojfaa
open Go.RowKit

/-- Done one by one. -/
def runOk : StZ → List CallZ → Prop
  | _, [] => True
  | s, c :: r => (doZ s c.op).2 = c.an ∧ runOk (doZ s c.op).1 r
/-- Listed so that r tells the calls as they were done. -/
structure Listed (L L0 : List CallZ) (r : List Int) : Prop where
  nd : r.Nodup
  rg : ∀ x ∈ r, ∃ m : Nat, x = (m : Int) ∧ m < L.length
  mp : r.map (atZ L) = L0
  all : ∀ j : Nat, j < L.length → (j : Int) ∈ r
theorem listed_self (L : List CallZ) : Listed L L ((List.range L.length).map fun i : Nat => (i : Int)) := by
  refine ⟨?_, fun x hx => ?_, ?_, fun j hj => List.mem_map.2 ⟨j, List.mem_range.2 hj, rfl⟩⟩
  · show List.Pairwise _ _
    rw [List.pairwise_map]
    exact List.nodup_range.imp (fun h e => h (by omega))
  · obtain ⟨i, hi, rfl⟩ := List.mem_map.1 hx
    exact ⟨i, rfl, List.mem_range.1 hi⟩
  · apply List.ext_getElem
    · simp
    · intro i h1 h2
      simp only [List.getElem_map, List.getElem_range]
      exact atZ_nat h2
/-- Two places change. -/
def swI (a b : Nat) (x : Int) : Int := if x = (a : Int) then (b : Int) else if x = (b : Int) then (a : Int) else x
theorem swI_inv (a b : Nat) (x : Int) : swI a b (swI a b x) = x := by
  unfold swI
  split
  · rename_i h
    split
    · omega
    · simp [h]
  · split
    · rename_i h1 h2
      simp [h2]
    · rfl
theorem Listed.swap {L L0 : List CallZ} {r : List Int} (h : Listed L L0 r) {a b : Nat} (ha : a < L.length) (hb : b < L.length) (hab : a ≠ b) : Listed ((L.set a L[b]).set b L[a]) L0 (r.map (swI a b)) := by
  have hinj : ∀ x y, swI a b x = swI a b y → x = y := fun x y e => by rw [← swI_inv a b x, e, swI_inv]
  refine ⟨?_, fun x hx => ?_, ?_, fun j hj => ?_⟩
  · show List.Pairwise _ _
    rw [List.pairwise_map]
    exact h.nd.imp (fun hne e => hne (hinj _ _ e))
  · obtain ⟨y, hy, rfl⟩ := List.mem_map.1 hx
    obtain ⟨m, rfl, hm⟩ := h.rg y hy
    unfold swI
    simp only [List.length_set]
    split
    · exact ⟨b, rfl, hb⟩
    · split
      · exact ⟨a, rfl, ha⟩
      · exact ⟨m, rfl, hm⟩
  · rw [← h.mp, List.map_map]
    apply List.map_congr_left
    intro x hx
    obtain ⟨m, rfl, hm⟩ := h.rg x hx
    show atZ ((L.set a L[b]).set b L[a]) (swI a b (m : Int)) = atZ L (m : Int)
    unfold swI
    by_cases e1 : (m : Int) = (a : Int)
    · have : m = a := by omega
      subst this
      rw [if_pos rfl, atZ_nat (by simpa using hb), atZ_nat hm]
      simp
    · rw [if_neg e1]
      by_cases e2 : (m : Int) = (b : Int)
      · have : m = b := by omega
        subst this
        rw [if_pos rfl, atZ_nat (by simpa using ha), atZ_nat hm]
        rw [List.getElem_set_ne (by omega), List.getElem_set_self]
      · rw [if_neg e2, atZ_nat (by simpa using hm), atZ_nat hm]
        rw [List.getElem_set_ne (by omega), List.getElem_set_ne (by omega)]
  · simp only [List.length_set] at hj
    refine List.mem_map.2 ⟨swI a b (j : Int), ?_, swI_inv a b _⟩
    unfold swI
    split
    · exact h.all b hb
    · split
      · exact h.all a ha
      · exact h.all j hj
theorem ok_of {L : List CallZ} : ∀ (r : List Int) (D : List Bool) (s : StZ), L.length ≤ D.length → r.Nodup → (∀ x ∈ r, ∃ m : Nat, x = (m : Int) ∧ m < L.length) → (∀ j : Nat, j < L.length → (doneB D j = false ↔ (j : Int) ∈ r)) → r.Pairwise (fun a b => ¬ (atZ L b).to < (atZ L a).fr) → runOk s (r.map (atZ L)) → okSeq smallM L r.length D s r
  | [], _, _, _, _, _, _, _, _ => rfl
  | i :: r, D, s, hD, hn, hr, hd, hp, ho => by
    obtain ⟨m, rfl, hm⟩ := hr i (by simp)
    obtain ⟨hn1, hn2⟩ := List.nodup_cons.1 hn
    obtain ⟨hp1, hp2⟩ := List.pairwise_cons.1 hp
    obtain ⟨ho1, ho2⟩ := ho
    refine ⟨minZ_mem.2 ⟨m, rfl, hm, (hd m hm).2 (by simp), fun j hj hne hdj => ?_⟩, decide_eq_true ho1, ?_⟩
    · rcases List.mem_cons.1 ((hd j hj).1 hdj) with e | e
      · omega
      · exact hp1 _ e
    · rw [Int.toNat_natCast]
      refine ok_of r _ _ (by simpa using hD) hn2 (fun x hx => hr x (by simp [hx])) (fun j hj => ?_) hp2 ho2
      by_cases e : m = j
      · subst e
        rw [doneB_set_same (by omega)]
        exact ⟨fun h => (by cases h), fun h => absurd h hn1⟩
      · rw [doneB_set_ne e, hd j hj]
        exact ⟨fun h => (List.mem_cons.1 h).resolve_left (by omega), fun h => List.mem_cons_of_mem _ h⟩
/-- So there is an order. -/
theorem listed_order {L L0 : List CallZ} {r : List Int} (h : Listed L L0 r) (hl : r.length = L.length) {k : Nat} (hk : L.length ≤ k) (hrun : runOk st0 L0) (htime : L0.Pairwise fun a b => ¬ b.to < a.fr) : r ∈ conts smallM L L.length (List.replicate k false) st0 := by
  rw [mem_conts, ← hl]
  refine ok_of r _ _ (by simpa using hk) h.nd h.rg (fun j hj => ⟨fun _ => h.all j hj, fun _ => doneB_replicate _ _⟩) ?_ (by rw [h.mp]; exact hrun)
  rw [← h.mp, List.pairwise_map] at htime
  exact htime
/-- How many searches there are at most. -/
theorem cost_le (L : List CallZ) : ∀ (n : Nat) (D : List Bool), costZ L n D ≤ (L.length + 1) ^ n
  | 0, _ => Nat.le_refl _
  | n + 1, D => by
    have h1 : ∀ P : List Int, (P.map (stepK L n D)).sum ≤ P.length * (L.length + 1) ^ n := fun P => by
      induction P with
      | nil => simp
      | cons p P ih =>
        have := cost_le L n (D.set p.toNat true)
        rw [List.map_cons, List.sum_cons, List.length_cons, Nat.add_mul, Nat.one_mul]
        unfold stepK at *
        omega
    have h2 := h1 (minZ L D)
    have h3 := Nat.mul_le_mul_right ((L.length + 1) ^ n) (min_len L D)
    have h4 : 1 ≤ (L.length + 1) ^ n := Nat.pow_pos (by omega)
    rw [cost_sum, Nat.pow_succ, Nat.mul_add, Nat.mul_one, Nat.mul_comm ((L.length + 1) ^ n)]
    omega

end Go.Proofs.Ythngehpmoiojfaa

namespace Go.Proofs.Ythngehpmoiojfaa
open Go.RowKit

/-- The lists that are orders, in their order. -/
def allZ (L : List CallZ) : List (List Int) := (seqZ 5041 (upZ L.length)).filter (refCheckZ smallM L st0)
theorem seq_len : ∀ (f : Nat) (o : List Int), (seqZ f o).length ≤ f
  | 0, _ => Nat.le_refl _
  | f + 1, o => by
    unfold seqZ
    rw [List.length_cons]
    split
    · simp
    · have := seq_len f (nextZ o); omega
theorem allZ_len (L : List CallZ) : (allZ L).length ≤ 5041 := Nat.le_trans (List.length_filter_le _ _) (seq_len _ _)
theorem allZ_conts {L : List CallZ} (h : L.length ≤ 7) : allZ L = conts smallM L L.length (List.replicate 24 false) st0 := all_orders smallM L h st0 (by omega)
theorem res_all {L : List CallZ} (h : L.length ≤ 7) : resF L (List.replicate 24 false) st0 = (allZ L).head? := by
  unfold resF
  rw [nU_none, allZ_conts h]
theorem cnt_all {L : List CallZ} (h : L.length ≤ 7) : cntF L (List.replicate 24 false) st0 = (allZ L).length := by
  unfold cntF
  rw [nU_none, allZ_conts h]
theorem cost_all {L : List CallZ} (h : L.length ≤ 7) : costZ L L.length (List.replicate 24 false) < maxLen := by
  have h1 := cost_le L L.length (List.replicate 24 false)
  have h2 : (L.length + 1) ^ L.length ≤ 8 ^ 7 := Nat.le_trans (Nat.pow_le_pow_left (by omega) _) (Nat.pow_le_pow_right (by decide) h)
  have h3 : (8 : Nat) ^ 7 = 2097152 := by decide
  simp only [maxLen]
  omega
theorem some_all {L : List CallZ} : (allZ L).head?.isSome = decide (0 < (allZ L).length) := by
  cases allZ L <;> simp

end Go.Proofs.Ythngehpmoiojfaa
