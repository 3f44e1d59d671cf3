/- Layer 12: the three deeds on both sides. -/
import Derived.Test.YteigkomefehpjaaNodeP12
namespace Go.Proofs.Yteigkomefehpjaa
open Go.RowKit

theorem withZ_len (x : Int) : ∀ L : List Int, (withZ x L).length ≤ L.length + 1
  | [] => by simp [withZ]
  | y :: L => by
    unfold withZ
    split
    · have h : ((y :: L).filter (fun z => z != x)).length ≤ (y :: L).length := List.length_filter_le _ _
      rw [List.length_cons (a := x)]; omega
    · have := withZ_len x L
      simp only [List.length_cons]; omega
theorem mem_putE {k : Key} {v : Int} : ∀ {E : List Ent} {p : Ent}, p ∈ putE k v E → p = (k, v) ∨ p ∈ E
  | [], p, h => by simp [putE] at h; exact .inl h
  | q :: r, p, h => by
    unfold putE at h
    split at h
    · rcases List.mem_cons.1 h with h | h
      · exact .inr (by simp [h])
      · exact (mem_putE h).imp id (fun h => by simp [h])
    · rcases List.mem_cons.1 h with h | h
      · exact .inl h
      · exact .inr (List.mem_filter.1 h).1
theorem toP_drop (L : List NdR) (k : Key) (E : List Ent) : toP L (dropE k E) = dropE k (toP L E) := by
  unfold toP dropE
  rw [List.filter_map]
  rfl
theorem toP_put (L : List NdR) (k : Key) (v : Int) : ∀ E : List Ent, toP L (putE k v E) = putE k (bAt L v : Int) (toP L E)
  | [] => rfl
  | q :: r => by
    unfold putE
    show toP L _ = (if bl q.1 k then _ else _)
    split
    · show (q.1, (bAt L q.2 : Int)) :: toP L (putE k v r) = _
      rw [toP_put L k v r]; rfl
    · show (k, (bAt L v : Int)) :: toP L (dropE k (q :: r)) = _
      rw [toP_drop]; rfl
instance (r : NdR) : Decidable (bareZ r) := inferInstanceAs (Decidable (_ ∧ _))
/-- Kids with one more, or one less. -/
def kidK (key : Key) (m : Int) (r rm : NdR) : List Ent := if bareZ rm then dropE key r.kids else putE key m r.kids

/-- A node that was asked for, or none. -/
structure Pk (S : Nat → Prop) (w : World) (L : List NdR) (p : Value) (k : Int) (r : NdR) : Prop where
  pis : PIs S w p r.subs (toP L r.kids) r.z
  own : ownT (L.map NdR.t) k = r.t
  ok : TriOk r.t
  nums : NumsIn w r.t.1 r.subs
  ref : RefIn w (.agg #[r.t.2.1, r.t.2.2]) r.kids
  off1 : Off S r.t.1
  off2 : Off S r.t.2.1
  off3 : Off S r.t.2.2
  subs : r.subs.length ≤ L.length
  kids : r.kids.length ≤ L.length
  up : Up r.subs
  kup : KUp r.kids
  kid : ∀ p ∈ r.kids, p.1.length ≤ 20 ∧ ∃ j : Nat, p.2 = (j : Int) ∧ j < L.length ∧ ∃ y, L[j]? = some y ∧ ¬ bareZ y
  size : r.z - 1 = sumZ (zAt L) r.kids
  zb : r.z ≤ 2000
  what : bareZ r ∨ ∃ j : Nat, k = (j : Int) ∧ L[j]? = some r ∧ p = .pointer (some ⟨r.b, 0, none⟩)
def pkP (L : List NdR) (o : Option Nat) : Value := match o with | none => .pointer none | some j => .pointer (some ⟨bAt L (j : Int), 0, none⟩)
def pkK (o : Option Nat) : Int := match o with | none => -1 | some j => j
section
variable {S : Nat → Prop} {w1 w w' wb wc : World} {X A : Nat} {pv rv rv' : Value} {L : List NdR} {r rm x : NdR} {p q : Value} {k m : Int}
theorem Pk.below (h : Pk S w L p k r) (hb : Below w.heap.size w w') : Pk S w' L p k r :=
  ⟨h.pis.below hb, h.own, h.ok, h.nums.below hb, h.ref.below hb, h.off1, h.off2, h.off3, h.subs, h.kids, h.up, h.kup, h.kid, h.size, h.zb, h.what⟩
theorem PSt.pk (h : PSt w1 w X A pv rv L) (o : Option Nat) (ho : ∀ j, o = some j → j < L.length) : ∃ r, Pk (SX X A pv rv) w L (pkP L o) (pkK o) r := by
  cases o with
  | none =>
    exact ⟨⟨0, 0, triN, [], []⟩, pIs_nil _, by simp [ownT, pkK], triN_ok, ⟨rfl, .inl ⟨rfl, rfl⟩⟩, ⟨none, 0, none, 0, rfl, ⟨rfl, .inl ⟨rfl, rfl⟩⟩, ⟨rfl, .inl ⟨rfl, rfl⟩⟩⟩, off_nil _, off_nil _, off_nil _, Nat.zero_le _, Nat.zero_le _, List.Pairwise.nil, List.Pairwise.nil, by simp, rfl, Nat.zero_le _, .inl ⟨rfl, rfl⟩⟩
  | some j =>
    have hj := ho j rfl
    obtain ⟨r, hr⟩ : ∃ r, L[j]? = some r := ⟨_, List.getElem?_eq_getElem hj⟩
    obtain ⟨h1, h2⟩ := h.all j r hr
    have hp : pkP L (some j) = .pointer (some ⟨r.b, 0, none⟩) := by simp [pkP, bAt_of hr]
    refine ⟨r, by rw [hp]; exact h.core.pis hr, own_of hr, h.core.own_ok hr, h1.nums, h1.ref, h1.off1, h1.off2, h1.off3, by have := h2.subs; omega, by have := h2.kids; omega, h2.up, h2.kup, fun p hp => ?_, by rw [h2.size]; omega, h.small r (List.mem_of_getElem? hr), .inr ⟨j, rfl, hr, hp⟩⟩
    obtain ⟨g1, i, g2, g3, g4⟩ := h2.kid p hp
    exact ⟨g1, i, g2, by omega, g4⟩
theorem Pk.inL (h : Pk S w L p k r) : ∀ p ∈ r.kids, ∃ j : Nat, p.2 = (j : Int) ∧ j < L.length := fun p hp => by
  obtain ⟨_, j, g, hl, _⟩ := h.kid p hp
  exact ⟨j, g, hl⟩
/-- Its subscribers are others. -/
theorem PSt.subbed (h : PSt w1 wb X A pv rv L) (hp : Pk (SX X A pv rv) wb L p k r) {b : Nat} {Z : List Int} (hZl : Z.length ≤ r.subs.length + 1) (hZu : Up Z) {u : Value} (hnd : NdIs (SX X A pv rv) wb b Z (toP L r.kids) (r.z - 1))
    (hrow : RRow wc w1.heap.size A rv' (L.map NdR.t ++ [(u, r.t.2.1, r.t.2.2)])) (hnum : NumsIn wc u Z) (hf : FreshV wb.heap.size u) (ho1 : Off (RB A rv') u) (hn : RNew wb.heap.size rv rv') (ho : Only (RB A rv) wb wc) :
    MSt w1 wc X A pv rv' L ⟨b, r.z - 1 + 1, (u, r.t.2.1, r.t.2.2), Z, r.kids⟩ := by
  obtain ⟨s1, s2⟩ := refIn_slices hp.ref
  have g2 : Off (RB A rv) r.t.2.1 := fun g o n c he e => hp.off2 g o n c he (.inr e)
  have g3 : Off (RB A rv) r.t.2.2 := fun g o n c he e => hp.off3 g o n c he (.inr e)
  have hS := SX.new (X := X) (A := A) (pv := pv) hn
  refine h.made hnd hrow ho hn hnum (refIn_only hp.ref ho g2 g3) (h.off hf ho1) (hp.off2.turn s1 hS) (hp.off3.turn s2 hS) hp.inL ⟨?_, ?_, hZu, hp.kup, fun p' hp' => ?_, ?_⟩ (by have := hp.zb; show r.z - 1 + 1 ≤ _; omega)
  · have := hp.subs; show Z.length ≤ _; omega
  · have := hp.kids; show r.kids.length ≤ _; omega
  · obtain ⟨g1, j, g2, g3, y, g4, g5⟩ := hp.kid p' hp'
    exact ⟨g1, j, g2, g3, y, by rw [List.getElem?_append_left g3]; exact g4, g5⟩
  · show r.z - 1 + 1 = 1 + sumZ _ r.kids
    rw [sumZ_ext hp.inL, hp.size]; omega
theorem kidK_mem (hp : Pk S w L p k r) (hq : Pk S w L q m rm) {key : Key} (hkey : key.length ≤ 20) : ∀ p ∈ kidK key m r rm, p.1.length ≤ 20 ∧ ∃ j : Nat, p.2 = (j : Int) ∧ j < L.length ∧ ∃ y, L[j]? = some y ∧ ¬ bareZ y := fun p' hp' => by
  unfold kidK at hp'
  split at hp'
  · exact hp.kid p' (List.mem_filter.1 hp').1
  · rename_i hb
    rcases mem_putE hp' with rfl | hp'
    · rcases hq.what with h | ⟨j, hj, hr, _⟩
      · exact absurd h hb
      · exact ⟨hkey, j, hj, (List.getElem?_eq_some_iff.1 hr).1, rm, hr, hb⟩
    · exact hp.kid p' hp'
theorem kidK_len (hp : Pk S w L p k r) {key : Key} : (kidK key m r rm).length ≤ L.length + 1 := by
  have := hp.kids
  unfold kidK
  split
  · have := dropE_length key r.kids; omega
  · have := putE_length key m r.kids; omega
theorem kidK_up (hp : Pk S w L p k r) {key : Key} : KUp (kidK key m r rm) := by
  unfold kidK
  split
  · exact kup_dropE hp.kup
  · exact kup_putE hp.kup
/-- How many a node is, by its block. -/
def zfW (w : World) (v : Int) : Nat := match w.cell? ⟨v.toNat, 2, none⟩ with | some (.int _ z) => z.toNat + 1 | _ => 0
theorem PSt.zf (h : PSt w1 w X A pv rv L) {j : Nat} {y : NdR} (hy : L[j]? = some y) : zfW w (bAt L (j : Int) : Int) = y.z := by
  obtain ⟨h1, h2⟩ := h.all j y hy
  obtain ⟨a1, n1, c1, a2, n2, c2, hb, _⟩ := h1.nd
  have hc := hb.at (o := 2) rfl
  have hp := h2.pos
  rw [bAt_of hy]
  unfold zfW
  rw [show (((y.b : Nat) : Int)).toNat = y.b by omega, hc]
  show (((y.z - 1 : Nat) : Int)).toNat + 1 = y.z
  omega
theorem nd_Kidded (h : PSt w1 w X A pv rv L) (hp : Pk (SX X A pv rv) w L p k r) (hq : Pk (SX X A pv rv) w L q m rm) (key : Key) (hkey : key.length ≤ 20) :
    Calls Try.prog 11 #[p, keyV key, q] w fun e w' => ∃ b, e = .returned (.pointer (some ⟨b, 0, none⟩)) ∧ NdIs (SX X A pv rv) w' b r.subs (toP L (kidK key m r rm)) (sumZ (zAt L) (kidK key m r rm)) ∧ Below w.heap.size w w' := by
  have hl := h.len
  have hmem := kidK_mem hp hq hkey
  have hs : sumZ (zfW w) (toP L (kidK key m r rm)) = sumZ (zAt L) (kidK key m r rm) := by
    unfold sumZ toP
    rw [List.map_map]
    congr 1
    refine List.map_congr_left fun p' hp' => ?_
    obtain ⟨_, j, hj, _, y, hy, _⟩ := hmem p' hp'
    show zfW w (bAt L p'.2 : Int) = zAt L p'.2
    rw [hj, h.zf hy, zAt_of hy]
  have := nd_WithKid p q r.subs rm.subs (toP L r.kids) (toP L rm.kids) r.z rm.z key w h.fresh hp.pis hq.pis (by rw [toP_len]; have := hp.kids; omega) (toP L (kidK key m r rm)) (by
    unfold kidK
    split
    · rename_i hb
      exact .inl ⟨hb.1, (toP_nil L).2 hb.2, toP_drop L key r.kids⟩
    · rename_i hb
      refine .inr ⟨fun e => hb ⟨e.1, (toP_nil L).1 e.2⟩, (bAt L m : Int), ?_, toP_put L key m r.kids⟩
      rcases hq.what with e | ⟨j, hj, hr, hqq⟩
      · exact absurd e hb
      · rw [hqq, hj, bAt_of hr]; rfl) (zfW w) (fun p' hp' => by
    obtain ⟨e, he, rfl⟩ := List.mem_map.1 hp'
    obtain ⟨_, j, hj, _, y, hy, _⟩ := hmem e he
    rw [hj]
    refine ⟨⟨y.subs, toP L y.kids, ?_⟩, ?_⟩
    · show PIs _ w (ptrV (bAt L (j : Int) : Int)) _ _ (zfW w (bAt L (j : Int) : Int))
      rw [h.zf hy, bAt_of hy]
      exact h.core.pis hy
    · show zfW w (bAt L (j : Int) : Int) ≤ _
      rw [h.zf hy]
      have := h.small y (List.mem_of_getElem? hy); omega)
  rw [hs] at this
  exact this
/-- Its kids are others. -/
theorem PSt.kidded (h : PSt w1 wb X A pv rv L) (hp : Pk (SX X A pv rv) wb L p k r) (hq : Pk (SX X A pv rv) wb L q m rm) {key : Key} (hkey : key.length ≤ 20) {b : Nat} {ks vs : Value} (hnd : NdIs (SX X A pv rv) wb b r.subs (toP L (kidK key m r rm)) (sumZ (zAt L) (kidK key m r rm)))
    (hrow : RRow wc w1.heap.size A rv' (L.map NdR.t ++ [(r.t.1, ks, vs)])) (href : RefIn wc (.agg #[ks, vs]) (kidK key m r rm)) (hf1 : FreshV wb.heap.size ks) (hf2 : FreshV wb.heap.size vs) (ho1 : Off (RB A rv') ks) (ho2 : Off (RB A rv') vs) (hn : RNew wb.heap.size rv rv') (ho : Only (RB A rv) wb wc) :
    MSt w1 wc X A pv rv' L ⟨b, sumZ (zAt L) (kidK key m r rm) + 1, (r.t.1, ks, vs), r.subs, kidK key m r rm⟩ := by
  have hmem := kidK_mem hp hq hkey
  have hin : ∀ p ∈ kidK key m r rm, ∃ j : Nat, p.2 = (j : Int) ∧ j < L.length := fun p' hp' => by
    obtain ⟨_, j, g, hl, _⟩ := hmem p' hp'
    exact ⟨j, g, hl⟩
  have g1 : Off (RB A rv) r.t.1 := fun g o n c he e => hp.off1 g o n c he (.inr e)
  have hS := SX.new (X := X) (A := A) (pv := pv) hn
  refine h.made hnd hrow ho hn (sliceK_only hp.nums ho g1) href (hp.off1.turn hp.nums hS) (h.off hf1 ho1) (h.off hf2 ho2) hin ⟨?_, ?_, hp.up, kidK_up hp, fun p' hp' => ?_, ?_⟩ ?_
  · have := hp.subs; show r.subs.length ≤ _; omega
  · exact kidK_len hp
  · obtain ⟨g1, j, g2, g3, y, g4, g5⟩ := hmem p' hp'
    exact ⟨g1, j, g2, g3, y, by rw [List.getElem?_append_left g3]; exact g4, g5⟩
  · show _ + 1 = 1 + sumZ _ (kidK key m r rm)
    rw [sumZ_ext hin]; omega
  · have h1 := sumZ_le (zAt L) 2000 (kidK key m r rm) (fun p' hp' => by
      obtain ⟨_, j, g2, _, y, g4, _⟩ := hmem p' hp'
      rw [g2, zAt_of g4]
      exact h.small y (List.mem_of_getElem? g4))
    have h2 := kidK_len (m := m) (rm := rm) (key := key) hp
    have h3 := h.len
    show _ + 1 ≤ _
    have h4 : (kidK key m r rm).length * 2000 ≤ 61 * 2000 := Nat.mul_le_mul_right _ (by omega)
    omega
theorem MSt.last (_ : MSt w1 w X A pv rv L x) : (L ++ [x])[L.length]? = some x := by simp
theorem Core.size {S : Nat → Prop} {lo i : Nat} (h : Core S w lo A rv L) (hr : L[i]? = some r) (hzb : r.z ≤ 200000) : Calls Try.prog 13 #[.pointer (some ⟨A, 0, none⟩), .int .i64 (i : Int)] w fun e w' => e = .returned (.int .i64 ((min r.z 100000 : Nat) : Int)) ∧ Below w.heap.size w w' := by
  have hz : zAt L (i : Int) = r.z := zAt_of hr
  have := ref_ASize h.row i (by rw [List.length_map]; exact (List.getElem?_eq_some_iff.1 hr).1) (zAt L) (by rw [hz]; exact hzb) (fun j c hc => by
    rw [List.getElem?_map] at hc
    obtain ⟨y, hy, rfl⟩ := Option.map_eq_some_iff.1 hc
    obtain ⟨h1, h2⟩ := h.all j y hy
    have hjl := (List.getElem?_eq_some_iff.1 hy).1
    refine ⟨y.kids.map Prod.snd, ?_, fun v hv => ?_, ?_⟩
    · have := (refIn_slices h1.ref).2
      unfold NumsIn
      rw [List.length_map, List.map_map]
      exact this
    · obtain ⟨p, hp, rfl⟩ := List.mem_map.1 hv
      obtain ⟨_, i, hi, hl, _⟩ := h2.kid p hp
      exact ⟨i, hi, by rw [List.length_map]; omega⟩
    · rw [zAt_of hy, h2.size]
      unfold sumA sumZ
      rw [List.map_map]
      rfl)
  rw [hz] at this
  exact this
theorem MSt.size (h : MSt w1 w X A pv rv L x) : Calls Try.prog 13 #[.pointer (some ⟨A, 0, none⟩), .int .i64 (L.length : Int)] w fun e w' => e = .returned (.int .i64 ((min x.z 100000 : Nat) : Int)) ∧ Below w.heap.size w w' :=
  h.core.size h.last h.zb
/-- The next node is among all. -/
theorem MSt.push (h : MSt w1 w X A pv rv L x) (hz : x.z ≤ 2000) (hl : L.length < 60) {pv' : Value} (hbox : Blk 24 w' X [pv']) (hrow : w'.ownsRow w1.heap.size 29 1 pv' (L ++ [x]).length ((L ++ [x]).map fun r => .pointer (some ⟨r.b, 0, none⟩)))
    (ho : Only (fun k => k = X ∨ pv.ownBlock = some k) w w') (hn : RNew w.heap.size pv pv') : PSt w1 w' X A pv' rv (L ++ [x]) := by
  have hT : ∀ k, (k = X ∨ pv.ownBlock = some k) → SX X A pv rv k := fun k e => .inl e
  have hS : ∀ k, k < w.heap.size → SX X A pv' rv k → SX X A pv rv k := fun k hk e => by
    rcases e with (e | e) | e
    · exact .inl (.inl e)
    · exact (hn k e).elim (fun e => .inl (.inr e)) (fun e => by omega)
    · exact .inr e
  refine ⟨h.row.only ho ?_, h.all.turn ho hT hS, hbox, hrow, fun r hr => ?_, ?_, h.lowX, h.lowA, by simp; omega⟩
  · rintro k (rfl | hk) (e | e)
    · exact blk_ne12 h.box h.row.box (by decide) e.symm
    · exact blk_apart h.row.box h.prow e (by decide) rfl
    · exact blk_apart h.box h.row.row hk (by decide) e.symm
    · exact rows_ne h.prow h.row.row e hk (by decide)
  · rcases List.mem_append.1 hr with hr | hr
    · exact h.small r hr
    · obtain rfl : r = x := by simpa using hr
      exact hz
  · refine h.low.trans (ho.below h.low.size fun k hk e => ?_)
    rcases e with rfl | e
    · have := h.lowX; omega
    · have := (h.prow.lt k e).1; omega
/-- The pointers, by their places. -/
theorem PSt.at (h : PSt w1 w X A pv rv L) {j : Nat} {r : NdR} (hr : L[j]? = some r) : ∃ g cap, pv = .slice (some ⟨g, 0, none⟩) L.length cap ∧ w.cell? ⟨g, j, none⟩ = some (.pointer (some ⟨r.b, 0, none⟩)) ∧ g < w.heap.size := by
  have hlt := (List.getElem?_eq_some_iff.1 hr).1
  rcases h.prow.2 with ⟨_, h0⟩ | ⟨g, cap, cur, hv, _⟩
  · omega
  · have hs := SliceK.of_own h.prow
    rcases hs.2 with ⟨h1, _⟩ | ⟨g', off', cap', hv', _, hg, hc⟩
    · rw [hv] at h1; cases h1
    · rw [hv] at hv'
      cases hv'
      refine ⟨g, cap, hv, ?_, hg⟩
      have := hc j (.pointer (some ⟨r.b, 0, none⟩)) (by rw [List.getElem?_map, hr]; rfl)
      simpa using this
end

end Go.Proofs.Yteigkomefehpjaa
