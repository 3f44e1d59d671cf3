/- The document's trie of layer 13 (bellmanref13), in memory: its pairs in two slices; where a pair is. · The document's trie of layer 13: Add. Made by tools/gen_refa13.py. · The document's trie of layer 13: Drop; and both where nothing is done. Made by tools/gen_refd13.py. -/
import Derived.Test.YtmfejpbijllojaaGreatRefMap3
import Derived.Test.YtmfejpbijllojaaGreatTrieM13
import Derived.Test.YtmfejpbijllojaaGreatNodeI12
import Derived.Test.YtmfejpbijllojaaGreatRows7
import Derived.Test.YtmfejpbijllojaaGreatRef1
import Derived.Deep.RegionHeld3
import Derived.Deep.CutBlock
import Derived.Laws.AppendOwnNone
import Derived.OwnWalk
namespace Go.Proofs.YtmfejpbijllojaaGreat
open Go.RowKit Go.Shelf

/-- The document's trie: two slices, in none of these blocks. -/
def RfAt (S : Nat → Prop) (W : World) (v : Value) (P : List Pr) : Prop := ∃ ka kc va vc, v = .agg #[.slice ka P.length kc, .slice va P.length vc] ∧ SliceK W 1 (.slice ka P.length kc) P.length (P.map fun p => keyV p.1) ∧ SliceK W 1 (.slice va P.length vc) P.length (P.map fun p => numV p.2) ∧ Off S (.slice ka P.length kc) ∧ Off S (.slice va P.length vc)
theorem RfAt.ref {S : Nat → Prop} {W : World} {v : Value} {P : List Pr} (h : RfAt S W v P) : RefIn W v P := by
  obtain ⟨ka, kc, va, vc, h1, h2, h3, _⟩ := h
  exact ⟨ka, kc, va, vc, h1, h2, h3⟩
theorem RfAt.below {S : Nat → Prop} {W W' : World} {v : Value} {P : List Pr} (h : RfAt S W v P) (hb : Below W.heap.size W W') : RfAt S W' v P := by
  obtain ⟨ka, kc, va, vc, h1, h2, h3, h4, h5⟩ := h
  exact ⟨ka, kc, va, vc, h1, h2.below hb, h3.below hb, h4, h5⟩
theorem RfAt.only {S T : Nat → Prop} {W W' : World} {v : Value} {P : List Pr} (h : RfAt S W v P) (ho : Only T W W') (hT : ∀ k, T k → S k) : RfAt S W' v P := by
  obtain ⟨ka, kc, va, vc, h1, h2, h3, h4, h5⟩ := h
  exact ⟨ka, kc, va, vc, h1, sliceK_only h2 ho (fun g o n c he e => h4 g o n c he (hT _ e)), sliceK_only h3 ho (fun g o n c he e => h5 g o n c he (hT _ e)), h4, h5⟩
theorem rfAt_nil (S : Nat → Prop) (W : World) : RfAt S W (.agg #[.slice none 0 0, .slice none 0 0]) [] := ⟨none, 0, none, 0, rfl, ⟨rfl, .inl ⟨rfl, rfl⟩⟩, ⟨rfl, .inl ⟨rfl, rfl⟩⟩, off_nil S, off_nil S⟩
/-- Rows of one's own, made since. -/
theorem rfAt_rows {S : Nat → Prop} {W : World} {B : Nat} {a b : Option Addr} {n c m d : Nat} {P : List Pr} (h1 : W.ownsRow B 9 1 (.slice a n c) P.length (P.map fun p => keyV p.1)) (h2 : W.ownsRow B 3 1 (.slice b m d) P.length (P.map fun p => numV p.2)) (hS : ∀ k, B ≤ k → ¬ S k) : RfAt S W (.agg #[.slice a n c, .slice b m d]) P := by
  obtain ⟨a', c', e1⟩ := own_form h1
  obtain ⟨b', d', e2⟩ := own_form h2
  cases e1
  cases e2
  refine ⟨a, c, b, d, rfl, SliceK.of_own h1, SliceK.of_own h2, fun g off k l he hg => ?_, fun g off k l he hg => ?_⟩
  · exact hS g (own_base3 h1 g (by rw [he]; rfl)) hg
  · exact hS g (own_base3 h2 g (by rw [he]; rfl)) hg

/-- The place of a pair. -/
def plN (x : Pr) : List Pr → Option Nat
  | [] => none
  | p :: r => if p = x then some 0 else (plN x r).map (· + 1)
def plI (P : List Pr) (x : Pr) : Int := match plN x P with
  | none => -1
  | some k => (k : Int)
theorem plN_at {x : Pr} : ∀ {P : List Pr} {k : Nat}, (∀ j, j < k → P[j]? ≠ some x) → P[k]? = some x → plN x P = some k
  | [], k, _, h => by simp at h
  | p :: r, 0, _, h => by
    obtain rfl : p = x := by simpa using h
    simp [plN]
  | p :: r, k + 1, h1, h2 => by
    have hp : p ≠ x := fun e => h1 0 (by omega) (by simp [e])
    rw [plN, if_neg hp, plN_at (P := r) (k := k) (fun j hj => by simpa using h1 (j + 1) (by omega)) (by simpa using h2)]
    rfl
theorem plN_none {x : Pr} : ∀ {P : List Pr}, x ∉ P → plN x P = none
  | [], _ => rfl
  | p :: r, h => by
    rw [plN, if_neg (fun e => h (by simp [e])), plN_none fun e => h (by simp [e])]; rfl
theorem plN_some {x : Pr} : ∀ {P : List Pr}, x ∈ P → ∃ k, plN x P = some k ∧ P[k]? = some x
  | [], h => by simp at h
  | p :: r, h => by
    by_cases e : p = x
    · exact ⟨0, by simp [plN, e], by simp [e]⟩
    · have hr : x ∈ r := by rcases List.mem_cons.1 h with h | h; exact absurd h.symm e; exact h
      obtain ⟨k, h1, h2⟩ := plN_some hr
      exact ⟨k + 1, by rw [plN, if_neg e, h1]; rfl, by simpa using h2⟩
theorem plI_at {P : List Pr} {x : Pr} {k : Nat} (h1 : ∀ j, j < k → P[j]? ≠ some x) (h2 : P[k]? = some x) : plI P x = (k : Int) := by rw [plI, plN_at h1 h2]
theorem plI_none {P : List Pr} {x : Pr} (h : x ∉ P) : plI P x = -1 := by rw [plI, plN_none h]
theorem plI_some {P : List Pr} {x : Pr} (h : x ∈ P) : ∃ k : Nat, plI P x = (k : Int) ∧ P[k]? = some x := by
  obtain ⟨k, h1, h2⟩ := plN_some h
  exact ⟨k, by rw [plI, h1], h2⟩

set_option maxRecDepth 100000 in
set_option maxHeartbeats 4000000 in
theorem rf_Place {S : Nat → Prop} (v : Value) (P : List Pr) (f : Key) (s : Int) (w : World) (h : RfAt S w v P) (hbig : P.length ≤ 10000) :
    Calls Tryz.prog 13 #[v, keyV f, .int .i64 s] w fun e w' => e = .returned (.int .i64 (plI P (f, s))) ∧ Below w.heap.size w w' := by
  obtain ⟨ka, kc, va, vc, rfl, h1, h2, _, _⟩ := h
  have b0 : Blk 32 (w.alloc (.cells #[.slice ka P.length kc, .slice va P.length vc] 32)) w.heap.size [.slice ka P.length kc, .slice va P.length vc] := Blk.new
  have hB := new_below w (.cells #[.slice ka P.length kc, .slice va P.length vc] 32)
  have K1 := Lib.hid (fun i p (hp : P[i]? = some p) => slice_at (f := fun p : Pr => keyV p.1) (h1.below hB) i p hp)
  have V1 := Lib.hid (fun i p (hp : P[i]? = some p) => slice_at (f := fun p : Pr => numV p.2) (h2.below hB) i p hp)
  have HB := Lib.hid hB
  clear h1 h2 hB
  go_enter Tryz.func13, Tryz.ntmps13
  go_wp2_with fail
  generalize w.alloc (.cells #[.slice ka P.length kc, .slice va P.length vc] 32) = W2 at *
  have k0 := b0.at (o := 0) rfl
  have k1 := b0.at (o := 1) rfl
  clear b0
  go_loopw [7] (fun i wr => ∃ k : Nat, k ≤ P.length ∧ i = .int .i64 k ∧ Hid (∀ j, j < k → P[j]? ≠ some (f, s)) ∧ wr = W2) (fun i _ => P.length - (intOf i).toNat)
  case atStart => exact ⟨0, Nat.zero_le _, rfl, Lib.hid (fun j h => by omega), rfl⟩
  case round =>
    obtain ⟨k, hk, rfl, HN, rfl⟩ := hrel
    by_cases hlt : k < P.length
    · obtain ⟨⟨pk, ps⟩, hp⟩ : ∃ p, P[k]? = some p := ⟨_, List.getElem?_eq_getElem hlt⟩
      obtain ⟨b, off, rfl, hbl, hc1⟩ := K1.out k _ hp
      obtain ⟨b', off', rfl, hbl', hc2⟩ := V1.out k _ hp
      have hlt2 : (k : Int) < (P.length : Int) := by omega
      have HP := Lib.hid hp
      dsimp only at hc1 hc2
      clear hp
      by_cases hf : pk = f
      · have hf1 : (pk == f) = true := by simpa using hf
        by_cases hs : ps = s
        · have hs1 : (ps == s) = true := by simpa using hs
          have HR := Lib.hid (plI_at (x := (f, s)) HN.out (by rw [HP.out, hf, hs]))
          subst hf hs
          clear hf1 hs1
          go_wp2
          go_ret
          exact ⟨by rw [HR.out]; rfl, HB.out⟩
        · have hs1 : (ps == s) = false := by simpa using hs
          have HS := Lib.hid hs
          subst hf
          clear hf1 hs
          go_wp2
          go_roundw
          case rel =>
            refine ⟨k + 1, by omega, by go_num, Lib.hid (fun j hj => ?_), trivial⟩
            by_cases e : j = k
            · subst e; rw [HP.out]; exact fun e => HS.out (by injection e with e; injection e)
            · exact HN.out j (by omega)
          case measure => simp [intOf]; omega
      · have hf1 : (pk == f) = false := by simpa using hf
        have HF := Lib.hid hf
        clear hf
        go_wp2
        go_roundw
        case rel =>
          refine ⟨k + 1, by omega, by go_num, Lib.hid (fun j hj => ?_), trivial⟩
          by_cases e : j = k
          · subst e; rw [HP.out]; exact fun e => HF.out (by injection e with e; injection e)
          · exact HN.out j (by omega)
        case measure => simp [intOf]; omega
    · have HR : Hid (plI P (f, s) = -1) := Lib.hid (plI_none fun hm => by
        obtain ⟨j, hj⟩ := List.mem_iff_getElem?.1 hm
        exact HN.out j (by have := (List.getElem?_eq_some_iff.1 hj).1; omega) hj)
      have hnl : ¬ (k : Int) < (P.length : Int) := by omega
      go_wp2
      go_ret
      exact ⟨by rw [HR.out]; rfl, HB.out⟩
end Go.Proofs.YtmfejpbijllojaaGreat

namespace Go.Proofs.YtmfejpbijllojaaGreat
open Go.RowKit Go.Shelf

theorem cut_goal13 {G P : Prop} (h : G → P) (t : G) : P := h t
theorem one_num13 (L : List Int) : ∀ u ∈ L.map numV, u.oneCell' = true := fun u hu => by
  obtain ⟨x, _, rfl⟩ := List.mem_map.1 hu
  rfl
theorem one_key13 (L : List Key) : ∀ u ∈ L.map keyV, u.oneCell' = true := fun u hu => by
  obtain ⟨x, _, rfl⟩ := List.mem_map.1 hu
  rfl
/-- 'append' of whatever slice to a row of the call's own: numbers, texts. -/
theorem run_app_num (W : World) (base : Nat) (ty : TypeId) (v u : Value) (M R : List Int) (hown : W.ownsRow base 3 1 v M.length (M.map numV)) (hsrc : SliceK W 1 u R.length (R.map numV)) (hbig : M.length + R.length ≤ 1000000) (hbase : base ≤ W.heap.size) :
    ∃ v' w', (Builtin.append_ #[30, 30] ty #[v, u]).run Tryz.prog W = .ok v' w' ∧ w'.ownsRow base 3 1 v' (M ++ R).length ((M ++ R).map numV) ∧ W.grownBy w' v.ownBlock := by
  obtain ⟨i0, hi, hz0, hz1, hz2⟩ := info_parts infoInt
  rcases hsrc.2 with ⟨rfl, h0⟩ | ⟨b, off, cap, rfl, _, _, hc⟩
  · obtain rfl : R = [] := List.eq_nil_of_length_eq_zero h0
    rw [List.append_nil]
    exact ⟨v, W, run_append_owned_none (P := Tryz.prog) (w := W) base 30 ty 3 i0 1 Tryz.underlying30 hi v _ _ hown, hown, ⟨rfl, rfl, rfl, Nat.le_refl _, fun _ _ _ => rfl⟩⟩
  · obtain ⟨v', w', h1, h2, h3, _⟩ := run_append_own (P := Tryz.prog) W base 30 ty 3 i0 (.int .i64 0) 1 8 Tryz.underlying30 hi hz0 hz1 hz2 rfl (by decide) v _ _ hown ⟨b, off, none⟩ R.length cap (R.map numV) (by simp) hc.get (one_num13 R) (by simp only [maxLen]; omega) (by omega) hbase
    exact ⟨v', w', h1, by rw [List.length_append, List.map_append]; exact h2, h3⟩
theorem run_app_key (W : World) (base : Nat) (ty : TypeId) (v u : Value) (M R : List Key) (hown : W.ownsRow base 9 1 v M.length (M.map keyV)) (hsrc : SliceK W 1 u R.length (R.map keyV)) (hbig : M.length + R.length ≤ 1000000) (hbase : base ≤ W.heap.size) :
    ∃ v' w', (Builtin.append_ #[29, 29] ty #[v, u]).run Tryz.prog W = .ok v' w' ∧ w'.ownsRow base 9 1 v' (M ++ R).length ((M ++ R).map keyV) ∧ W.grownBy w' v.ownBlock := by
  obtain ⟨i0, hi, hz0, hz1, hz2⟩ := info_parts infoStr3
  rcases hsrc.2 with ⟨rfl, h0⟩ | ⟨b, off, cap, rfl, _, _, hc⟩
  · obtain rfl : R = [] := List.eq_nil_of_length_eq_zero h0
    rw [List.append_nil]
    exact ⟨v, W, run_append_owned_none (P := Tryz.prog) (w := W) base 29 ty 9 i0 1 Tryz.underlying29 hi v _ _ hown, hown, ⟨rfl, rfl, rfl, Nat.le_refl _, fun _ _ _ => rfl⟩⟩
  · obtain ⟨v', w', h1, h2, h3, _⟩ := run_append_own (P := Tryz.prog) W base 29 ty 9 i0 (.string ⟨#[]⟩) 1 16 Tryz.underlying29 hi hz0 hz1 hz2 rfl (by decide) v _ _ hown ⟨b, off, none⟩ R.length cap (R.map keyV) (by simp) hc.get (one_key13 R) (by simp only [maxLen]; omega) (by omega) hbase
    exact ⟨v', w', h1, by rw [List.length_append, List.map_append]; exact h2, h3⟩

/-- A row that is being made, from base on: not yet, empty in a block of no cells, this. -/
def RwS (wx : World) (base : Nat) (e : TypeId) : Option (List Value) → Bool → Value → Prop
  | none, _, _ => True
  | some _, true, v => ∃ g, v = .slice (some ⟨g, 0, none⟩) 0 0 ∧ Blk e wx g [] ∧ base ≤ g
  | some l, false, v => wx.ownsRow base e 1 v l.length l
/-- One cell in a block of its own. -/
def OnS (wx : World) (base : Nat) (e : TypeId) (c : Bool) (u y : Value) : Prop := c = true → ∃ g, y = .slice (some ⟨g, 0, none⟩) 1 1 ∧ Blk e wx g [u] ∧ base ≤ g
section
variable {wx W : World} {base : Nat} {e e' : TypeId} {l : Option (List Value)} {n c : Bool} {v y u : Value}
theorem RwS.below (h : RwS wx base e l n v) (hb : Below wx.heap.size wx W) : RwS W base e l n v := by
  cases l with
  | none => trivial
  | some l =>
    cases n with
    | true => obtain ⟨g, h1, h2, h3⟩ := h; exact ⟨g, h1, h2.below hb h2.lt, h3⟩
    | false => exact own_below h hb
theorem OnS.below (h : OnS wx base e c u y) (hb : Below wx.heap.size wx W) : OnS W base e c u y := fun hc => by
  obtain ⟨g, h1, h2, h3⟩ := h hc
  exact ⟨g, h1, h2.below hb h2.lt, h3⟩
theorem RwS.own (h : RwS wx base e (some []) true v) : wx.ownsRow base e 1 v 0 [] ∧ ∃ g, v.ownBlock = some g ∧ Blk e wx g [] := by
  obtain ⟨g, rfl, h2, h3⟩ := h
  exact ⟨⟨rfl, .inr ⟨g, 0, #[], rfl, h3, h2, Nat.le_refl _, by simp, by simp, by simp⟩⟩, g, rfl, h2⟩
/-- A row of another type stays where one grows. -/
theorem RwS.kept {r : Value} {k : Nat} {xs : List Value} (h : RwS wx base e l n v) (hr : wx.ownsRow base e' 1 r k xs) (hne : e' ≠ e) (hg : wx.grownBy W r.ownBlock) : RwS W base e l n v := by
  cases l with
  | none => trivial
  | some l =>
    cases n with
    | true =>
      obtain ⟨g, h1, h2, h3⟩ := h
      exact ⟨g, h1, (hg.block g h2.lt (block_not_row (show wx.heap[g]? = some (.cells #[] e (0, 0)) from h2) (Ne.symm hne) hr)).trans h2, h3⟩
    | false => exact World.ownsRow.kept h hg (rows_apart (Ne.symm hne) hr h)
theorem OnS.kept {r : Value} {k : Nat} {xs : List Value} (h : OnS wx base e c u y) (hr : wx.ownsRow base e' 1 r k xs) (hne : e' ≠ e) (hg : wx.grownBy W r.ownBlock) : OnS W base e c u y := fun hc => by
  obtain ⟨g, h1, h2, h3⟩ := h hc
  exact ⟨g, h1, (hg.block g h2.lt (block_not_row (show wx.heap[g]? = some (.cells #[u] e (0, 0)) from h2) (Ne.symm hne) hr)).trans h2, h3⟩
/-- One cell stays where a row grows out of a block of no cells. -/
theorem OnS.kept0 {r : Value} {g : Nat} (h : OnS wx base e' c u y) (hr : r.ownBlock = some g) (hb : Blk e' wx g []) (hg : wx.grownBy W r.ownBlock) : OnS W base e' c u y := fun hc => by
  obtain ⟨g', h1, h2, h3⟩ := h hc
  refine ⟨g', h1, (hg.block g' h2.lt (fun e => ?_)).trans h2, h3⟩
  have hgg : g' = g := by rw [hr] at e; injection e
  have h4 : wx.heap[g']? = some (.cells [u].toArray e' (0, 0)) := h2
  rw [hgg, show wx.heap[g]? = some (.cells [].toArray e' (0, 0)) from hb] at h4
  simp at h4
theorem OnS.slice (h : OnS wx base e true u y) : SliceK wx 1 y 1 [u] := by
  obtain ⟨g, rfl, h2, h3⟩ := h rfl
  refine ⟨rfl, .inr ⟨g, 0, 1, rfl, Nat.le_refl _, h2.lt, fun j x hj => ?_⟩⟩
  rw [Nat.zero_add]
  exact (h2.cell j).trans hj
end
theorem low_grown {w0 wx W : World} {e : TypeId} {r : Value} {k : Nat} {xs : List Value} (h : Below w0.heap.size w0 wx) (hr : wx.ownsRow w0.heap.size e 1 r k xs) (hg : wx.grownBy W r.ownBlock) : Below w0.heap.size w0 W :=
  h.grown hg h.size (fun k hk => own_base3 hr k hk)
/-- Where the making of the new lists stands: a row of texts (v), one of numbers (x), a text alone (y), a number alone (z). -/
structure RA (w0 wx : World) (P : List Pr) (f : Key) (s : Int) (fs ss : Value) (a : Option (List Value)) (an : Bool) (b : Option (List Value)) (bn c d : Bool) (v x y z : Value) : Prop where
  low : Below w0.heap.size w0 wx
  sa : RwS wx w0.heap.size 9 a an v
  sb : RwS wx w0.heap.size 3 b bn x
  oc : OnS wx w0.heap.size 9 c (keyV f) y
  od : OnS wx w0.heap.size 3 d (numV s) z
  fs : SliceK w0 1 fs P.length (P.map fun p => keyV p.1)
  ss : SliceK w0 1 ss P.length (P.map fun p => numV p.2)
  len : P.length ≤ 10000
section
variable {w0 wx : World} {P : List Pr} {f : Key} {s : Int} {fs ss : Value} {a b : Option (List Value)} {an bn c d : Bool} {v x y z : Value}
theorem RA.e0 (h : RA w0 wx P f s fs ss a an b bn c d v x y z) : ∃ v' w', Value.slice (some ⟨wx.heap.size, 0, none⟩) 0 0 = v' ∧ wx.alloc (.cells #[] 9) = w' ∧ RA w0 w' P f s fs ss (some []) true b bn c d v' x y z := by
  have hb := new_below wx (.cells #[] 9)
  exact ⟨_, _, rfl, rfl, below_step h.low hb, ⟨_, rfl, Blk.new (l := []), h.low.size⟩, h.sb.below hb, h.oc.below hb, h.od.below hb, h.fs, h.ss, h.len⟩
theorem RA.e7 (h : RA w0 wx P f s fs ss a an b bn c d v x y z) : ∃ x' w', Value.slice (some ⟨wx.heap.size, 0, none⟩) 0 0 = x' ∧ wx.alloc (.cells #[] 3) = w' ∧ RA w0 w' P f s fs ss a an (some []) true c d v x' y z := by
  have hb := new_below wx (.cells #[] 3)
  exact ⟨_, _, rfl, rfl, below_step h.low hb, h.sa.below hb, ⟨_, rfl, Blk.new (l := []), h.low.size⟩, h.oc.below hb, h.od.below hb, h.fs, h.ss, h.len⟩
theorem RA.e5 (h : RA w0 wx P f s fs ss a an b bn c d v x y z) : ∃ y' w', Value.slice (some ⟨wx.heap.size, 0, none⟩) 1 1 = y' ∧ wx.alloc (.cells #[keyV f] 9) = w' ∧ RA w0 w' P f s fs ss a an b bn true d v x y' z := by
  have hb := new_below wx (.cells #[keyV f] 9)
  exact ⟨_, _, rfl, rfl, below_step h.low hb, h.sa.below hb, h.sb.below hb, fun _ => ⟨_, rfl, Blk.new (l := [keyV f]), h.low.size⟩, h.od.below hb, h.fs, h.ss, h.len⟩
theorem RA.e12 (h : RA w0 wx P f s fs ss a an b bn c d v x y z) : ∃ z' w', Value.slice (some ⟨wx.heap.size, 0, none⟩) 1 1 = z' ∧ wx.alloc (.cells #[.int .i64 s] 3) = w' ∧ RA w0 w' P f s fs ss a an b bn c true v x y z' := by
  have hb := new_below wx (.cells #[numV s] 3)
  exact ⟨_, _, rfl, rfl, below_step h.low hb, h.sa.below hb, h.sb.below hb, h.oc.below hb, fun _ => ⟨_, rfl, Blk.new (l := [numV s]), h.low.size⟩, h.fs, h.ss, h.len⟩
theorem RA.e3 (h : RA w0 wx P f s fs ss (some []) true b bn c d v x y z) : ∃ v' w', (Builtin.append_ #[29, 29] 29 #[v, fs]).run Tryz.prog wx = .ok v' w' ∧ RA w0 w' P f s fs ss (some (P.map fun p => keyV p.1)) false b bn c d v' x y z := by
  obtain ⟨ho, g, hg, hbk⟩ := h.sa.own
  have hfs : SliceK wx 1 fs (P.map Prod.fst).length ((P.map Prod.fst).map keyV) := by rw [List.length_map, List.map_map]; exact h.fs.below h.low
  obtain ⟨v', w', h1, h2, h3⟩ := run_app_key wx w0.heap.size 29 v fs [] (P.map Prod.fst) ho hfs (by simp; have := h.len; omega) h.low.size
  refine ⟨v', w', h1, low_grown h.low ho h3, ?_, h.sb.kept ho (by decide) h3, h.oc.kept0 hg hbk h3, h.od.kept ho (by decide) h3, h.fs, h.ss, h.len⟩
  show w'.ownsRow _ _ 1 v' _ _
  rw [List.nil_append, List.length_map, List.map_map] at h2
  rw [List.length_map]
  exact h2
theorem RA.e10 (h : RA w0 wx P f s fs ss a an (some []) true c d v x y z) : ∃ x' w', (Builtin.append_ #[30, 30] 30 #[x, ss]).run Tryz.prog wx = .ok x' w' ∧ RA w0 w' P f s fs ss a an (some (P.map fun p => numV p.2)) false c d v x' y z := by
  obtain ⟨ho, g, hg, hbk⟩ := h.sb.own
  have hss : SliceK wx 1 ss (P.map Prod.snd).length ((P.map Prod.snd).map numV) := by rw [List.length_map, List.map_map]; exact h.ss.below h.low
  obtain ⟨v', w', h1, h2, h3⟩ := run_app_num wx w0.heap.size 30 x ss [] (P.map Prod.snd) ho hss (by simp; have := h.len; omega) h.low.size
  refine ⟨v', w', h1, low_grown h.low ho h3, h.sa.kept ho (by decide) h3, ?_, h.oc.kept ho (by decide) h3, h.od.kept0 hg hbk h3, h.fs, h.ss, h.len⟩
  show w'.ownsRow _ _ 1 v' _ _
  rw [List.nil_append, List.length_map, List.map_map] at h2
  rw [List.length_map]
  exact h2
theorem RA.e6 (h : RA w0 wx P f s fs ss (some (P.map fun p => keyV p.1)) false b bn true d v x y z) : ∃ v' w', (Builtin.append_ #[29, 29] 29 #[v, y]).run Tryz.prog wx = .ok v' w' ∧ RA w0 w' P f s fs ss (some ((P ++ [(f, s)]).map fun p => keyV p.1)) false b bn false d v' x y z := by
  have ho : wx.ownsRow w0.heap.size 9 1 v (P.map Prod.fst).length ((P.map Prod.fst).map keyV) := by
    have this : wx.ownsRow w0.heap.size 9 1 v (P.map fun p => keyV p.1).length (P.map fun p => keyV p.1) := h.sa
    rw [List.length_map] at this
    rw [List.length_map, List.map_map]
    exact this
  obtain ⟨v', w', h1, h2, h3⟩ := run_app_key wx w0.heap.size 29 v y (P.map Prod.fst) [f] ho h.oc.slice (by simp; have := h.len; omega) h.low.size
  refine ⟨v', w', h1, low_grown h.low ho h3, ?_, h.sb.kept ho (by decide) h3, fun e => by simp at e, h.od.kept ho (by decide) h3, h.fs, h.ss, h.len⟩
  show w'.ownsRow _ _ 1 v' _ _
  rw [show (P ++ [(f, s)]).map (fun p => keyV p.1) = (P.map Prod.fst ++ [f]).map keyV by simp, List.length_map]
  exact h2
theorem RA.e13 (h : RA w0 wx P f s fs ss a an (some (P.map fun p => numV p.2)) false c true v x y z) : ∃ x' w', (Builtin.append_ #[30, 30] 30 #[x, z]).run Tryz.prog wx = .ok x' w' ∧ RA w0 w' P f s fs ss a an (some ((P ++ [(f, s)]).map fun p => numV p.2)) false c false v x' y z := by
  have ho : wx.ownsRow w0.heap.size 3 1 x (P.map Prod.snd).length ((P.map Prod.snd).map numV) := by
    have this : wx.ownsRow w0.heap.size 3 1 x (P.map fun p => numV p.2).length (P.map fun p => numV p.2) := h.sb
    rw [List.length_map] at this
    rw [List.length_map, List.map_map]
    exact this
  obtain ⟨v', w', h1, h2, h3⟩ := run_app_num wx w0.heap.size 30 x z (P.map Prod.snd) [s] ho h.od.slice (by simp; have := h.len; omega) h.low.size
  refine ⟨v', w', h1, low_grown h.low ho h3, h.sa.kept ho (by decide) h3, ?_, h.oc.kept ho (by decide) h3, fun e => by simp at e, h.fs, h.ss, h.len⟩
  show w'.ownsRow _ _ 1 v' _ _
  rw [show (P ++ [(f, s)]).map (fun p => numV p.2) = (P.map Prod.snd ++ [s]).map numV by simp, List.length_map]
  exact h2
theorem RA.made {S : Nat → Prop} (h : RA w0 wx P f s fs ss (some ((P ++ [(f, s)]).map fun p => keyV p.1)) false (some ((P ++ [(f, s)]).map fun p => numV p.2)) false c d v x y z) (hS : ∀ k, w0.heap.size ≤ k → ¬ S k) :
    ∃ a1 n1 c1 a2 n2 c2, v = .slice a1 n1 c1 ∧ x = .slice a2 n2 c2 ∧ RfAt S wx (.agg #[.slice a1 n1 c1, .slice a2 n2 c2]) (P ++ [(f, s)]) := by
  have h1 : wx.ownsRow w0.heap.size 9 1 v (P ++ [(f, s)]).length ((P ++ [(f, s)]).map fun p => keyV p.1) := by have := h.sa; simpa [RwS] using this
  have h2 : wx.ownsRow w0.heap.size 3 1 x (P ++ [(f, s)]).length ((P ++ [(f, s)]).map fun p => numV p.2) := by have := h.sb; simpa [RwS] using this
  obtain ⟨a1, c1, rfl⟩ := own_form h1
  obtain ⟨a2, c2, rfl⟩ := own_form h2
  exact ⟨_, _, _, _, _, _, rfl, rfl, rfAt_rows h1 h2 hS⟩
end
theorem twoR (w : World) (x y : Value) : ∃ W, (w.alloc (.cells #[x, y] 32)).alloc (.cells #[.slice none 0 0, .slice none 0 0] 32) = W ∧ Below w.heap.size w W ∧ Blk 32 W w.heap.size [x, y] ∧ Blk 32 W (w.heap.size + 1) [.slice none 0 0, .slice none 0 0] := by
  refine ⟨_, rfl, below_step (new_below _ _) (new_below _ _), Blk.alloc Blk.new _, ?_⟩
  have := Blk.new (W := w.alloc (.cells #[x, y] 32)) (t := 32) (l := [.slice none 0 0, .slice none 0 0])
  rw [World.size_alloc] at this; exact this
theorem blk_put13 {t : TypeId} {W : World} {B : Nat} {x y : Value} (h : Blk t W B [x, y]) (u v : Value) : Blk t ((W.setCell ⟨B, 0, none⟩ u).setCell ⟨B, 1, none⟩ v) B [u, v] := by
  simpa using (h.set 0 u).set 1 v
theorem only_put13 (W : World) (B : Nat) (u v : Value) : Only (fun k => k = B) W ((W.setCell ⟨B, 0, none⟩ u).setCell ⟨B, 1, none⟩ v) :=
  ((Only.refl (fun k => k = B) W).setCell (p := ⟨B, 0, none⟩) (.inl rfl) u).setCell (p := ⟨B, 1, none⟩) (.inl rfl) v

set_option maxRecDepth 100000 in
set_option maxHeartbeats 16000000 in
theorem rf_add_new {S : Nat → Prop} (v0 : Value) (P : List Pr) (f : Key) (s : Int) (w : World) (hS : ∀ k, w.heap.size ≤ k → ¬ S k) (h : RfAt S w v0 P) (hbig : P.length ≤ 10000) (hfl : f.length ≤ 1048576) (hf : filterZ f = true) (hn : (f, s) ∉ P) :
    Calls Tryz.prog 10 #[v0, keyV f, .int .i64 s] w fun e w' => ∃ r, e = .returned (.tuple #[r, .int .i64 0]) ∧ RfAt S w' r (P ++ [(f, s)]) ∧ Below w.heap.size w w' := by
  have HF : Hid (∀ W, Calls Tryz.prog 25 #[keyV f] W fun e w' => e = .returned (.bool true) ∧ Below W.heap.size W w') := Lib.hid fun W => by
    have := ref_Filter ⟨f.toArray⟩ W (by simpa [ByteArray.size] using hfl)
    rw [hf] at this; exact this
  have HPl : Hid (∀ W, Below w.heap.size w W → Calls Tryz.prog 13 #[v0, keyV f, .int .i64 s] W fun e w' => e = .returned (.int .i64 (-1)) ∧ Below W.heap.size W w') := Lib.hid fun W hW => by
    have := rf_Place v0 P f s W (h.below hW) hbig
    rw [plI_none hn] at this; exact this
  obtain ⟨ka, kc, va, vc, rfl, h1, h2, _, _⟩ := h
  have HS1 := Lib.hid h1
  have HS2 := Lib.hid h2
  have HSS := Lib.hid hS
  clear h1 h2 hf hn hS
  go_enter Tryz.func10, Tryz.ntmps10
  go_wp2_with fail
  obtain ⟨W2, hW2, B2, b0, b1⟩ := twoR w (.slice ka P.length kc) (.slice va P.length vc)
  rw [hW2]
  clear hW2
  refine (HF.out _).mono ?_
  rintro e w3 ⟨rfl, hB3⟩
  have B3 := Lib.hid (below_step B2 hB3)
  have c0 := b0.below hB3 b0.lt
  have c1 := b1.below hB3 b1.lt
  have k0 := c0.at (o := 0) rfl
  have k1 := c0.at (o := 1) rfl
  clear hB3 b0 b1 B2
  go_wp2_with fail
  refine (HPl.out _ B3.out).mono ?_
  rintro e w4 ⟨rfl, hB4⟩
  have B4 := Lib.hid (below_step B3.out hB4)
  have HD := Lib.hid (And.intro (c0.below hB4 c0.lt) (c1.below hB4 c1.lt))
  clear hB4 c0 c1 k0 k1 B3 HF HPl
  go_upto_region 5 with fail
  have HX : Hid (∀ W, Below w4.heap.size w4 W → W.cell? ⟨w.heap.size, 0, none⟩ = some (.slice ka P.length kc) ∧ W.cell? ⟨w.heap.size, 1, none⟩ = some (.slice va P.length vc)) := Lib.hid fun W hW => ⟨(HD.out.1.below hW HD.out.1.lt).at (o := 0) rfl, (HD.out.1.below hW HD.out.1.lt).at (o := 1) rfl⟩
  have hC : Below w4.heap.size w4 w4.drew := (Below.refl _ _).drew
  obtain ⟨v3, v6, x10, x13, v0, x7, y, z, hR⟩ : ∃ (_ _ _ _ v x y z : Value), RA w4 w4.drew P f s (.slice ka P.length kc) (.slice va P.length vc) none false none false false false v x y z := ⟨undef, undef, undef, undef, undef, undef, undef, undef, hC, trivial, trivial, fun e => by simp at e, fun e => by simp at e, HS1.out.below B4.out, HS2.out.below B4.out, hbig⟩
  refine wp_region_noPanic ?_
  refine wp_region_held_drew (S := (fun w' => w'.cell? ⟨w.heap.size, 0, none⟩ = some (.slice ka P.length kc) ∧ w'.cell? ⟨w.heap.size, 1, none⟩ = some (.slice va P.length vc))) (by kernel_rfl) ?_ (fun hHeld => ?_)
  · exact HX.out _ hC
  refine wpAnyH_take (i := 1) (oi := ⟨some 19, _, _, _, _, _⟩) (v := ?_) rfl (by kernel_rfl) (by kernel_rfl) (by kernel_rfl) (fun _ _ _ h => h) (Or.inl ⟨by rfl, ?_⟩) (by assumption) ?_
  rotate_left
  · (intro w hSw; (try dsimp only at hSw); go_simp; try with_reducible rfl)
  try simp only [Act.put, List.setIfInBounds_toArray, List.set_cons_zero, List.set_cons_succ]
  refine wpAnyH_take (i := 2) (oi := ⟨some 20, _, _, _, _, _⟩) (v := ?_) rfl (by kernel_rfl) (by kernel_rfl) (by kernel_rfl) (fun _ _ _ h => h) (Or.inl ⟨by rfl, ?_⟩) (by assumption) ?_
  rotate_left
  · (intro w hSw; (try dsimp only at hSw); go_simp; try with_reducible rfl)
  try simp only [Act.put, List.setIfInBounds_toArray, List.set_cons_zero, List.set_cons_succ]
  refine wpAnyH_take (i := 4) (oi := ⟨some 22, _, _, _, _, _⟩) (v := ?_) rfl (by kernel_rfl) (by kernel_rfl) (by kernel_rfl) (fun _ _ _ h => h) (Or.inl ⟨by rfl, ?_⟩) (by assumption) ?_
  rotate_left
  · (intro w hSw; (try dsimp only at hSw); go_simp; try with_reducible rfl)
  try simp only [Act.put, List.setIfInBounds_toArray, List.set_cons_zero, List.set_cons_succ]
  refine wpAnyH_take (i := 8) (oi := ⟨some 26, _, _, _, _, _⟩) (v := ?_) rfl (by kernel_rfl) (by kernel_rfl) (by kernel_rfl) (fun _ _ _ h => h) (Or.inl ⟨by rfl, ?_⟩) (by assumption) ?_
  rotate_left
  · (intro w hSw; (try dsimp only at hSw); go_simp; try with_reducible rfl)
  try simp only [Act.put, List.setIfInBounds_toArray, List.set_cons_zero, List.set_cons_succ]
  refine wpAnyH_take (i := 9) (oi := ⟨some 27, _, _, _, _, _⟩) (v := ?_) rfl (by kernel_rfl) (by kernel_rfl) (by kernel_rfl) (fun _ _ _ h => h) (Or.inl ⟨by rfl, ?_⟩) (by assumption) ?_
  rotate_left
  · (intro w hSw; (try dsimp only at hSw); go_simp; try with_reducible rfl)
  try simp only [Act.put, List.setIfInBounds_toArray, List.set_cons_zero, List.set_cons_succ]
  refine wpAnyH_take (i := 11) (oi := ⟨some 29, _, _, _, _, _⟩) (v := ?_) rfl (by kernel_rfl) (by kernel_rfl) (by kernel_rfl) (fun _ _ _ h => h) (Or.inl ⟨by rfl, ?_⟩) (by assumption) ?_
  rotate_left
  · (intro w hSw; (try dsimp only at hSw); go_simp; try with_reducible rfl)
  try simp only [Act.put, List.setIfInBounds_toArray, List.set_cons_zero, List.set_cons_succ]
  clear hC
  revert hHeld
  revert hR
  revert z
  revert y
  revert x13
  revert x10
  revert x7
  revert v6
  revert v3
  revert v0
  generalize w4.drew = wx
  revert wx
  apply cut_goal13
  · intro T0
    apply cut_goal13
    · intro T1
      apply cut_goal13
      · intro T2
        apply cut_goal13
        · intro T3
          apply cut_goal13
          · intro T4
            apply cut_goal13
            · intro T5
              apply cut_goal13
              · intro T6
                apply cut_goal13
                · intro T7
                  apply cut_goal13
                  · intro T8
                    apply cut_goal13
                    · intro T9
                      apply cut_goal13
                      · intro T10
                        apply cut_goal13
                        · intro T11
                          apply cut_goal13
                          · intro T12
                            apply cut_goal13
                            · intro T13
                              apply cut_goal13
                              · intro T14
                                apply cut_goal13
                                · intro T15
                                  apply cut_goal13
                                  · intro T16
                                    apply cut_goal13
                                    · intro T17
                                      apply cut_goal13
                                      · intro T18
                                        apply cut_goal13
                                        · intro T19
                                          apply cut_goal13
                                          · intro T20
                                            apply cut_goal13
                                            · intro T21
                                              apply cut_goal13
                                              · intro T22
                                                apply cut_goal13
                                                · intro T23
                                                  apply cut_goal13
                                                  · intro T24
                                                    apply cut_goal13
                                                    · intro T25
                                                      apply cut_goal13
                                                      · intro T26
                                                        apply cut_goal13
                                                        · intro T27
                                                          apply cut_goal13
                                                          · intro T28
                                                            apply cut_goal13
                                                            · intro T29
                                                              intro wx v0 v3 v6 x7 x10 x13 y z hR hHeld
                                                              refine wpAnyH_ready (rs := [0, 5, 7, 12]) (by kernel_rfl) (by simp) ?_
                                                              refine AllReadyH.cons (o := ⟨some 18, _, _, _, _, _⟩) rfl (fun K hK => ?_) (AllReadyH.cons (o := ⟨some 23, _, _, _, _, _⟩) rfl (fun K hK => ?_) (AllReadyH.cons (o := ⟨some 25, _, _, _, _, _⟩) rfl (fun K hK => ?_) (AllReadyH.cons (o := ⟨some 30, _, _, _, _, _⟩) rfl (fun K hK => ?_) AllReadyH.nil)))
                                                              · go_simp
                                                                obtain ⟨n2, wx2, e1, e2, hR2⟩ := hR.e0
                                                                rw [e1, e2]
                                                                clear e1 e2
                                                                refine hK.out _ _ ?_ (fun hHeldX => ?_)
                                                                · exact HX.out _ hR2.low
                                                                clear hK K hHeld
                                                                rename _ => hHeld
                                                                try simp only [Act.put, List.setIfInBounds_toArray, List.set_cons_zero, List.set_cons_succ]
                                                                clear hR
                                                                revert hHeld
                                                                revert hR2
                                                                revert z
                                                                revert y
                                                                revert x13
                                                                revert x10
                                                                revert x7
                                                                revert v6
                                                                revert v3
                                                                revert n2
                                                                revert wx2
                                                                try clear v0
                                                                exact T22
                                                              · go_simp
                                                                obtain ⟨n2, wx2, e1, e2, hR2⟩ := hR.e5
                                                                rw [e1, e2]
                                                                clear e1 e2
                                                                refine hK.out _ _ ?_ (fun hHeldX => ?_)
                                                                · exact HX.out _ hR2.low
                                                                clear hK K hHeld
                                                                rename _ => hHeld
                                                                try simp only [Act.put, List.setIfInBounds_toArray, List.set_cons_zero, List.set_cons_succ]
                                                                clear hR
                                                                revert hHeld
                                                                revert hR2
                                                                revert z
                                                                revert n2
                                                                revert x13
                                                                revert x10
                                                                revert x7
                                                                revert v6
                                                                revert v3
                                                                revert v0
                                                                revert wx2
                                                                try clear y
                                                                exact T26
                                                              · go_simp
                                                                obtain ⟨n2, wx2, e1, e2, hR2⟩ := hR.e7
                                                                rw [e1, e2]
                                                                clear e1 e2
                                                                refine hK.out _ _ ?_ (fun hHeldX => ?_)
                                                                · exact HX.out _ hR2.low
                                                                clear hK K hHeld
                                                                rename _ => hHeld
                                                                try simp only [Act.put, List.setIfInBounds_toArray, List.set_cons_zero, List.set_cons_succ]
                                                                clear hR
                                                                revert hHeld
                                                                revert hR2
                                                                revert z
                                                                revert y
                                                                revert x13
                                                                revert x10
                                                                revert n2
                                                                revert v6
                                                                revert v3
                                                                revert v0
                                                                revert wx2
                                                                try clear x7
                                                                exact T28
                                                              · go_simp
                                                                obtain ⟨n2, wx2, e1, e2, hR2⟩ := hR.e12
                                                                rw [e1, e2]
                                                                clear e1 e2
                                                                refine hK.out _ _ ?_ (fun hHeldX => ?_)
                                                                · exact HX.out _ hR2.low
                                                                clear hK K hHeld
                                                                rename _ => hHeld
                                                                try simp only [Act.put, List.setIfInBounds_toArray, List.set_cons_zero, List.set_cons_succ]
                                                                clear hR
                                                                revert hHeld
                                                                revert hR2
                                                                revert n2
                                                                revert y
                                                                revert x13
                                                                revert x10
                                                                revert x7
                                                                revert v6
                                                                revert v3
                                                                revert v0
                                                                revert wx2
                                                                try clear z
                                                                exact T29
                                                            · intro wx v0 v3 v6 x7 x10 x13 y z hR hHeld
                                                              refine wpAnyH_ready (rs := [0, 5, 7]) (by kernel_rfl) (by simp) ?_
                                                              refine AllReadyH.cons (o := ⟨some 18, _, _, _, _, _⟩) rfl (fun K hK => ?_) (AllReadyH.cons (o := ⟨some 23, _, _, _, _, _⟩) rfl (fun K hK => ?_) (AllReadyH.cons (o := ⟨some 25, _, _, _, _, _⟩) rfl (fun K hK => ?_) AllReadyH.nil))
                                                              · go_simp
                                                                obtain ⟨n2, wx2, e1, e2, hR2⟩ := hR.e0
                                                                rw [e1, e2]
                                                                clear e1 e2
                                                                refine hK.out _ _ ?_ (fun hHeldX => ?_)
                                                                · exact HX.out _ hR2.low
                                                                clear hK K hHeld
                                                                rename _ => hHeld
                                                                try simp only [Act.put, List.setIfInBounds_toArray, List.set_cons_zero, List.set_cons_succ]
                                                                clear hR
                                                                revert hHeld
                                                                revert hR2
                                                                revert z
                                                                revert y
                                                                revert x13
                                                                revert x10
                                                                revert x7
                                                                revert v6
                                                                revert v3
                                                                revert n2
                                                                revert wx2
                                                                try clear v0
                                                                exact T21
                                                              · go_simp
                                                                obtain ⟨n2, wx2, e1, e2, hR2⟩ := hR.e5
                                                                rw [e1, e2]
                                                                clear e1 e2
                                                                refine hK.out _ _ ?_ (fun hHeldX => ?_)
                                                                · exact HX.out _ hR2.low
                                                                clear hK K hHeld
                                                                rename _ => hHeld
                                                                try simp only [Act.put, List.setIfInBounds_toArray, List.set_cons_zero, List.set_cons_succ]
                                                                clear hR
                                                                revert hHeld
                                                                revert hR2
                                                                revert z
                                                                revert n2
                                                                revert x13
                                                                revert x10
                                                                revert x7
                                                                revert v6
                                                                revert v3
                                                                revert v0
                                                                revert wx2
                                                                try clear y
                                                                exact T25
                                                              · go_simp
                                                                obtain ⟨n2, wx2, e1, e2, hR2⟩ := hR.e7
                                                                rw [e1, e2]
                                                                clear e1 e2
                                                                refine hK.out _ _ ?_ (fun hHeldX => ?_)
                                                                · exact HX.out _ hR2.low
                                                                clear hK K hHeld
                                                                rename _ => hHeld
                                                                try simp only [Act.put, List.setIfInBounds_toArray, List.set_cons_zero, List.set_cons_succ]
                                                                clear hR
                                                                revert hHeld
                                                                revert hR2
                                                                revert z
                                                                revert y
                                                                revert x13
                                                                revert x10
                                                                revert n2
                                                                revert v6
                                                                revert v3
                                                                revert v0
                                                                revert wx2
                                                                try clear x7
                                                                exact T27
                                                          · intro wx v0 v3 v6 x7 x10 x13 y z hR hHeld
                                                            refine wpAnyH_ready (rs := [0, 5, 12]) (by kernel_rfl) (by simp) ?_
                                                            refine AllReadyH.cons (o := ⟨some 18, _, _, _, _, _⟩) rfl (fun K hK => ?_) (AllReadyH.cons (o := ⟨some 23, _, _, _, _, _⟩) rfl (fun K hK => ?_) (AllReadyH.cons (o := ⟨some 30, _, _, _, _, _⟩) rfl (fun K hK => ?_) AllReadyH.nil))
                                                            · go_simp
                                                              obtain ⟨n2, wx2, e1, e2, hR2⟩ := hR.e0
                                                              rw [e1, e2]
                                                              clear e1 e2
                                                              refine hK.out _ _ ?_ (fun hHeldX => ?_)
                                                              · exact HX.out _ hR2.low
                                                              clear hK K hHeld
                                                              rename _ => hHeld
                                                              try simp only [Act.put, List.setIfInBounds_toArray, List.set_cons_zero, List.set_cons_succ]
                                                              clear hR
                                                              revert hHeld
                                                              revert hR2
                                                              revert z
                                                              revert y
                                                              revert x13
                                                              revert x10
                                                              revert x7
                                                              revert v6
                                                              revert v3
                                                              revert n2
                                                              revert wx2
                                                              try clear v0
                                                              exact T20
                                                            · go_simp
                                                              obtain ⟨n2, wx2, e1, e2, hR2⟩ := hR.e5
                                                              rw [e1, e2]
                                                              clear e1 e2
                                                              refine hK.out _ _ ?_ (fun hHeldX => ?_)
                                                              · exact HX.out _ hR2.low
                                                              clear hK K hHeld
                                                              rename _ => hHeld
                                                              try simp only [Act.put, List.setIfInBounds_toArray, List.set_cons_zero, List.set_cons_succ]
                                                              clear hR
                                                              revert hHeld
                                                              revert hR2
                                                              revert z
                                                              revert n2
                                                              revert x13
                                                              revert x10
                                                              revert x7
                                                              revert v6
                                                              revert v3
                                                              revert v0
                                                              revert wx2
                                                              try clear y
                                                              exact T24
                                                            · go_simp
                                                              obtain ⟨n2, wx2, e1, e2, hR2⟩ := hR.e12
                                                              rw [e1, e2]
                                                              clear e1 e2
                                                              refine hK.out _ _ ?_ (fun hHeldX => ?_)
                                                              · exact HX.out _ hR2.low
                                                              clear hK K hHeld
                                                              rename _ => hHeld
                                                              try simp only [Act.put, List.setIfInBounds_toArray, List.set_cons_zero, List.set_cons_succ]
                                                              clear hR
                                                              revert hHeld
                                                              revert hR2
                                                              revert n2
                                                              revert y
                                                              revert x13
                                                              revert x10
                                                              revert x7
                                                              revert v6
                                                              revert v3
                                                              revert v0
                                                              revert wx2
                                                              try clear z
                                                              exact T27
                                                        · intro wx v0 v3 v6 x7 x10 x13 y z hR hHeld
                                                          refine wpAnyH_ready (rs := [0, 5]) (by kernel_rfl) (by simp) ?_
                                                          refine AllReadyH.cons (o := ⟨some 18, _, _, _, _, _⟩) rfl (fun K hK => ?_) (AllReadyH.cons (o := ⟨some 23, _, _, _, _, _⟩) rfl (fun K hK => ?_) AllReadyH.nil)
                                                          · go_simp
                                                            obtain ⟨n2, wx2, e1, e2, hR2⟩ := hR.e0
                                                            rw [e1, e2]
                                                            clear e1 e2
                                                            refine hK.out _ _ ?_ (fun hHeldX => ?_)
                                                            · exact HX.out _ hR2.low
                                                            clear hK K hHeld
                                                            rename _ => hHeld
                                                            try simp only [Act.put, List.setIfInBounds_toArray, List.set_cons_zero, List.set_cons_succ]
                                                            clear hR
                                                            revert hHeld
                                                            revert hR2
                                                            revert z
                                                            revert y
                                                            revert x13
                                                            revert x10
                                                            revert x7
                                                            revert v6
                                                            revert v3
                                                            revert n2
                                                            revert wx2
                                                            try clear v0
                                                            exact T19
                                                          · go_simp
                                                            obtain ⟨n2, wx2, e1, e2, hR2⟩ := hR.e5
                                                            rw [e1, e2]
                                                            clear e1 e2
                                                            refine hK.out _ _ ?_ (fun hHeldX => ?_)
                                                            · exact HX.out _ hR2.low
                                                            clear hK K hHeld
                                                            rename _ => hHeld
                                                            try simp only [Act.put, List.setIfInBounds_toArray, List.set_cons_zero, List.set_cons_succ]
                                                            clear hR
                                                            revert hHeld
                                                            revert hR2
                                                            revert z
                                                            revert n2
                                                            revert x13
                                                            revert x10
                                                            revert x7
                                                            revert v6
                                                            revert v3
                                                            revert v0
                                                            revert wx2
                                                            try clear y
                                                            exact T23
                                                      · intro wx v0 v3 v6 x7 x10 x13 y z hR hHeld
                                                        refine wpAnyH_ready (rs := [0, 7, 12]) (by kernel_rfl) (by simp) ?_
                                                        refine AllReadyH.cons (o := ⟨some 18, _, _, _, _, _⟩) rfl (fun K hK => ?_) (AllReadyH.cons (o := ⟨some 25, _, _, _, _, _⟩) rfl (fun K hK => ?_) (AllReadyH.cons (o := ⟨some 30, _, _, _, _, _⟩) rfl (fun K hK => ?_) AllReadyH.nil))
                                                        · go_simp
                                                          obtain ⟨n2, wx2, e1, e2, hR2⟩ := hR.e0
                                                          rw [e1, e2]
                                                          clear e1 e2
                                                          refine hK.out _ _ ?_ (fun hHeldX => ?_)
                                                          · exact HX.out _ hR2.low
                                                          clear hK K hHeld
                                                          rename _ => hHeld
                                                          try simp only [Act.put, List.setIfInBounds_toArray, List.set_cons_zero, List.set_cons_succ]
                                                          clear hR
                                                          revert hHeld
                                                          revert hR2
                                                          revert z
                                                          revert y
                                                          revert x13
                                                          revert x10
                                                          revert x7
                                                          revert v6
                                                          revert v3
                                                          revert n2
                                                          revert wx2
                                                          try clear v0
                                                          exact T18
                                                        · go_simp
                                                          obtain ⟨n2, wx2, e1, e2, hR2⟩ := hR.e7
                                                          rw [e1, e2]
                                                          clear e1 e2
                                                          refine hK.out _ _ ?_ (fun hHeldX => ?_)
                                                          · exact HX.out _ hR2.low
                                                          clear hK K hHeld
                                                          rename _ => hHeld
                                                          try simp only [Act.put, List.setIfInBounds_toArray, List.set_cons_zero, List.set_cons_succ]
                                                          clear hR
                                                          revert hHeld
                                                          revert hR2
                                                          revert z
                                                          revert y
                                                          revert x13
                                                          revert x10
                                                          revert n2
                                                          revert v6
                                                          revert v3
                                                          revert v0
                                                          revert wx2
                                                          try clear x7
                                                          exact T24
                                                        · go_simp
                                                          obtain ⟨n2, wx2, e1, e2, hR2⟩ := hR.e12
                                                          rw [e1, e2]
                                                          clear e1 e2
                                                          refine hK.out _ _ ?_ (fun hHeldX => ?_)
                                                          · exact HX.out _ hR2.low
                                                          clear hK K hHeld
                                                          rename _ => hHeld
                                                          try simp only [Act.put, List.setIfInBounds_toArray, List.set_cons_zero, List.set_cons_succ]
                                                          clear hR
                                                          revert hHeld
                                                          revert hR2
                                                          revert n2
                                                          revert y
                                                          revert x13
                                                          revert x10
                                                          revert x7
                                                          revert v6
                                                          revert v3
                                                          revert v0
                                                          revert wx2
                                                          try clear z
                                                          exact T25
                                                    · intro wx v0 v3 v6 x7 x10 x13 y z hR hHeld
                                                      refine wpAnyH_ready (rs := [0, 7]) (by kernel_rfl) (by simp) ?_
                                                      refine AllReadyH.cons (o := ⟨some 18, _, _, _, _, _⟩) rfl (fun K hK => ?_) (AllReadyH.cons (o := ⟨some 25, _, _, _, _, _⟩) rfl (fun K hK => ?_) AllReadyH.nil)
                                                      · go_simp
                                                        obtain ⟨n2, wx2, e1, e2, hR2⟩ := hR.e0
                                                        rw [e1, e2]
                                                        clear e1 e2
                                                        refine hK.out _ _ ?_ (fun hHeldX => ?_)
                                                        · exact HX.out _ hR2.low
                                                        clear hK K hHeld
                                                        rename _ => hHeld
                                                        try simp only [Act.put, List.setIfInBounds_toArray, List.set_cons_zero, List.set_cons_succ]
                                                        clear hR
                                                        revert hHeld
                                                        revert hR2
                                                        revert z
                                                        revert y
                                                        revert x13
                                                        revert x10
                                                        revert x7
                                                        revert v6
                                                        revert v3
                                                        revert n2
                                                        revert wx2
                                                        try clear v0
                                                        exact T17
                                                      · go_simp
                                                        obtain ⟨n2, wx2, e1, e2, hR2⟩ := hR.e7
                                                        rw [e1, e2]
                                                        clear e1 e2
                                                        refine hK.out _ _ ?_ (fun hHeldX => ?_)
                                                        · exact HX.out _ hR2.low
                                                        clear hK K hHeld
                                                        rename _ => hHeld
                                                        try simp only [Act.put, List.setIfInBounds_toArray, List.set_cons_zero, List.set_cons_succ]
                                                        clear hR
                                                        revert hHeld
                                                        revert hR2
                                                        revert z
                                                        revert y
                                                        revert x13
                                                        revert x10
                                                        revert n2
                                                        revert v6
                                                        revert v3
                                                        revert v0
                                                        revert wx2
                                                        try clear x7
                                                        exact T23
                                                  · intro wx v0 v3 v6 x7 x10 x13 y z hR hHeld
                                                    refine wpAnyH_ready (rs := [0, 12]) (by kernel_rfl) (by simp) ?_
                                                    refine AllReadyH.cons (o := ⟨some 18, _, _, _, _, _⟩) rfl (fun K hK => ?_) (AllReadyH.cons (o := ⟨some 30, _, _, _, _, _⟩) rfl (fun K hK => ?_) AllReadyH.nil)
                                                    · go_simp
                                                      obtain ⟨n2, wx2, e1, e2, hR2⟩ := hR.e0
                                                      rw [e1, e2]
                                                      clear e1 e2
                                                      refine hK.out _ _ ?_ (fun hHeldX => ?_)
                                                      · exact HX.out _ hR2.low
                                                      clear hK K hHeld
                                                      rename _ => hHeld
                                                      try simp only [Act.put, List.setIfInBounds_toArray, List.set_cons_zero, List.set_cons_succ]
                                                      clear hR
                                                      revert hHeld
                                                      revert hR2
                                                      revert z
                                                      revert y
                                                      revert x13
                                                      revert x10
                                                      revert x7
                                                      revert v6
                                                      revert v3
                                                      revert n2
                                                      revert wx2
                                                      try clear v0
                                                      exact T16
                                                    · go_simp
                                                      obtain ⟨n2, wx2, e1, e2, hR2⟩ := hR.e12
                                                      rw [e1, e2]
                                                      clear e1 e2
                                                      refine hK.out _ _ ?_ (fun hHeldX => ?_)
                                                      · exact HX.out _ hR2.low
                                                      clear hK K hHeld
                                                      rename _ => hHeld
                                                      try simp only [Act.put, List.setIfInBounds_toArray, List.set_cons_zero, List.set_cons_succ]
                                                      clear hR
                                                      revert hHeld
                                                      revert hR2
                                                      revert n2
                                                      revert y
                                                      revert x13
                                                      revert x10
                                                      revert x7
                                                      revert v6
                                                      revert v3
                                                      revert v0
                                                      revert wx2
                                                      try clear z
                                                      exact T23
                                                · intro wx v0 v3 v6 x7 x10 x13 y z hR hHeld
                                                  refine wpAnyH_ready (rs := [0]) (by kernel_rfl) (by simp) ?_
                                                  refine AllReadyH.cons (o := ⟨some 18, _, _, _, _, _⟩) rfl (fun K hK => ?_) AllReadyH.nil
                                                  · go_simp
                                                    obtain ⟨n2, wx2, e1, e2, hR2⟩ := hR.e0
                                                    rw [e1, e2]
                                                    clear e1 e2
                                                    refine hK.out _ _ ?_ (fun hHeldX => ?_)
                                                    · exact HX.out _ hR2.low
                                                    clear hK K hHeld
                                                    rename _ => hHeld
                                                    try simp only [Act.put, List.setIfInBounds_toArray, List.set_cons_zero, List.set_cons_succ]
                                                    clear hR
                                                    revert hHeld
                                                    revert hR2
                                                    revert z
                                                    revert y
                                                    revert x13
                                                    revert x10
                                                    revert x7
                                                    revert v6
                                                    revert v3
                                                    revert n2
                                                    revert wx2
                                                    try clear v0
                                                    exact T15
                                              · intro wx v0 v3 v6 x7 x10 x13 y z hR hHeld
                                                refine wpAnyH_ready (rs := [3, 5, 7, 12]) (by kernel_rfl) (by simp) ?_
                                                refine AllReadyH.cons (o := ⟨some 21, _, _, _, _, _⟩) rfl (fun K hK => ?_) (AllReadyH.cons (o := ⟨some 23, _, _, _, _, _⟩) rfl (fun K hK => ?_) (AllReadyH.cons (o := ⟨some 25, _, _, _, _, _⟩) rfl (fun K hK => ?_) (AllReadyH.cons (o := ⟨some 30, _, _, _, _, _⟩) rfl (fun K hK => ?_) AllReadyH.nil)))
                                                · obtain ⟨n2, wx2, hrun, hR2⟩ := hR.e3
                                                  refine step_append_run rfl (.tmp 18) (.tmp 20) 29 rfl _ _ _ _ rfl rfl hrun ?_
                                                  clear hrun
                                                  refine hK.out _ _ ?_ (fun hHeldX => ?_)
                                                  · exact HX.out _ hR2.low
                                                  clear hK K hHeld
                                                  rename _ => hHeld
                                                  try simp only [Act.put, List.setIfInBounds_toArray, List.set_cons_zero, List.set_cons_succ]
                                                  clear hR
                                                  revert hHeld
                                                  revert hR2
                                                  revert z
                                                  revert y
                                                  revert x13
                                                  revert x10
                                                  revert x7
                                                  revert v6
                                                  revert n2
                                                  revert v0
                                                  revert wx2
                                                  try clear v3
                                                  exact T14
                                                · go_simp
                                                  obtain ⟨n2, wx2, e1, e2, hR2⟩ := hR.e5
                                                  rw [e1, e2]
                                                  clear e1 e2
                                                  refine hK.out _ _ ?_ (fun hHeldX => ?_)
                                                  · exact HX.out _ hR2.low
                                                  clear hK K hHeld
                                                  rename _ => hHeld
                                                  try simp only [Act.put, List.setIfInBounds_toArray, List.set_cons_zero, List.set_cons_succ]
                                                  clear hR
                                                  revert hHeld
                                                  revert hR2
                                                  revert z
                                                  revert n2
                                                  revert x13
                                                  revert x10
                                                  revert x7
                                                  revert v6
                                                  revert v3
                                                  revert v0
                                                  revert wx2
                                                  try clear y
                                                  exact T18
                                                · go_simp
                                                  obtain ⟨n2, wx2, e1, e2, hR2⟩ := hR.e7
                                                  rw [e1, e2]
                                                  clear e1 e2
                                                  refine hK.out _ _ ?_ (fun hHeldX => ?_)
                                                  · exact HX.out _ hR2.low
                                                  clear hK K hHeld
                                                  rename _ => hHeld
                                                  try simp only [Act.put, List.setIfInBounds_toArray, List.set_cons_zero, List.set_cons_succ]
                                                  clear hR
                                                  revert hHeld
                                                  revert hR2
                                                  revert z
                                                  revert y
                                                  revert x13
                                                  revert x10
                                                  revert n2
                                                  revert v6
                                                  revert v3
                                                  revert v0
                                                  revert wx2
                                                  try clear x7
                                                  exact T20
                                                · go_simp
                                                  obtain ⟨n2, wx2, e1, e2, hR2⟩ := hR.e12
                                                  rw [e1, e2]
                                                  clear e1 e2
                                                  refine hK.out _ _ ?_ (fun hHeldX => ?_)
                                                  · exact HX.out _ hR2.low
                                                  clear hK K hHeld
                                                  rename _ => hHeld
                                                  try simp only [Act.put, List.setIfInBounds_toArray, List.set_cons_zero, List.set_cons_succ]
                                                  clear hR
                                                  revert hHeld
                                                  revert hR2
                                                  revert n2
                                                  revert y
                                                  revert x13
                                                  revert x10
                                                  revert x7
                                                  revert v6
                                                  revert v3
                                                  revert v0
                                                  revert wx2
                                                  try clear z
                                                  exact T21
                                            · intro wx v0 v3 v6 x7 x10 x13 y z hR hHeld
                                              refine wpAnyH_ready (rs := [3, 5, 7]) (by kernel_rfl) (by simp) ?_
                                              refine AllReadyH.cons (o := ⟨some 21, _, _, _, _, _⟩) rfl (fun K hK => ?_) (AllReadyH.cons (o := ⟨some 23, _, _, _, _, _⟩) rfl (fun K hK => ?_) (AllReadyH.cons (o := ⟨some 25, _, _, _, _, _⟩) rfl (fun K hK => ?_) AllReadyH.nil))
                                              · obtain ⟨n2, wx2, hrun, hR2⟩ := hR.e3
                                                refine step_append_run rfl (.tmp 18) (.tmp 20) 29 rfl _ _ _ _ rfl rfl hrun ?_
                                                clear hrun
                                                refine hK.out _ _ ?_ (fun hHeldX => ?_)
                                                · exact HX.out _ hR2.low
                                                clear hK K hHeld
                                                rename _ => hHeld
                                                try simp only [Act.put, List.setIfInBounds_toArray, List.set_cons_zero, List.set_cons_succ]
                                                clear hR
                                                revert hHeld
                                                revert hR2
                                                revert z
                                                revert y
                                                revert x13
                                                revert x10
                                                revert x7
                                                revert v6
                                                revert n2
                                                revert v0
                                                revert wx2
                                                try clear v3
                                                exact T13
                                              · go_simp
                                                obtain ⟨n2, wx2, e1, e2, hR2⟩ := hR.e5
                                                rw [e1, e2]
                                                clear e1 e2
                                                refine hK.out _ _ ?_ (fun hHeldX => ?_)
                                                · exact HX.out _ hR2.low
                                                clear hK K hHeld
                                                rename _ => hHeld
                                                try simp only [Act.put, List.setIfInBounds_toArray, List.set_cons_zero, List.set_cons_succ]
                                                clear hR
                                                revert hHeld
                                                revert hR2
                                                revert z
                                                revert n2
                                                revert x13
                                                revert x10
                                                revert x7
                                                revert v6
                                                revert v3
                                                revert v0
                                                revert wx2
                                                try clear y
                                                exact T17
                                              · go_simp
                                                obtain ⟨n2, wx2, e1, e2, hR2⟩ := hR.e7
                                                rw [e1, e2]
                                                clear e1 e2
                                                refine hK.out _ _ ?_ (fun hHeldX => ?_)
                                                · exact HX.out _ hR2.low
                                                clear hK K hHeld
                                                rename _ => hHeld
                                                try simp only [Act.put, List.setIfInBounds_toArray, List.set_cons_zero, List.set_cons_succ]
                                                clear hR
                                                revert hHeld
                                                revert hR2
                                                revert z
                                                revert y
                                                revert x13
                                                revert x10
                                                revert n2
                                                revert v6
                                                revert v3
                                                revert v0
                                                revert wx2
                                                try clear x7
                                                exact T19
                                          · intro wx v0 v3 v6 x7 x10 x13 y z hR hHeld
                                            refine wpAnyH_ready (rs := [3, 5, 12]) (by kernel_rfl) (by simp) ?_
                                            refine AllReadyH.cons (o := ⟨some 21, _, _, _, _, _⟩) rfl (fun K hK => ?_) (AllReadyH.cons (o := ⟨some 23, _, _, _, _, _⟩) rfl (fun K hK => ?_) (AllReadyH.cons (o := ⟨some 30, _, _, _, _, _⟩) rfl (fun K hK => ?_) AllReadyH.nil))
                                            · obtain ⟨n2, wx2, hrun, hR2⟩ := hR.e3
                                              refine step_append_run rfl (.tmp 18) (.tmp 20) 29 rfl _ _ _ _ rfl rfl hrun ?_
                                              clear hrun
                                              refine hK.out _ _ ?_ (fun hHeldX => ?_)
                                              · exact HX.out _ hR2.low
                                              clear hK K hHeld
                                              rename _ => hHeld
                                              try simp only [Act.put, List.setIfInBounds_toArray, List.set_cons_zero, List.set_cons_succ]
                                              clear hR
                                              revert hHeld
                                              revert hR2
                                              revert z
                                              revert y
                                              revert x13
                                              revert x10
                                              revert x7
                                              revert v6
                                              revert n2
                                              revert v0
                                              revert wx2
                                              try clear v3
                                              exact T12
                                            · go_simp
                                              obtain ⟨n2, wx2, e1, e2, hR2⟩ := hR.e5
                                              rw [e1, e2]
                                              clear e1 e2
                                              refine hK.out _ _ ?_ (fun hHeldX => ?_)
                                              · exact HX.out _ hR2.low
                                              clear hK K hHeld
                                              rename _ => hHeld
                                              try simp only [Act.put, List.setIfInBounds_toArray, List.set_cons_zero, List.set_cons_succ]
                                              clear hR
                                              revert hHeld
                                              revert hR2
                                              revert z
                                              revert n2
                                              revert x13
                                              revert x10
                                              revert x7
                                              revert v6
                                              revert v3
                                              revert v0
                                              revert wx2
                                              try clear y
                                              exact T16
                                            · go_simp
                                              obtain ⟨n2, wx2, e1, e2, hR2⟩ := hR.e12
                                              rw [e1, e2]
                                              clear e1 e2
                                              refine hK.out _ _ ?_ (fun hHeldX => ?_)
                                              · exact HX.out _ hR2.low
                                              clear hK K hHeld
                                              rename _ => hHeld
                                              try simp only [Act.put, List.setIfInBounds_toArray, List.set_cons_zero, List.set_cons_succ]
                                              clear hR
                                              revert hHeld
                                              revert hR2
                                              revert n2
                                              revert y
                                              revert x13
                                              revert x10
                                              revert x7
                                              revert v6
                                              revert v3
                                              revert v0
                                              revert wx2
                                              try clear z
                                              exact T19
                                        · intro wx v0 v3 v6 x7 x10 x13 y z hR hHeld
                                          refine wpAnyH_ready (rs := [3, 5]) (by kernel_rfl) (by simp) ?_
                                          refine AllReadyH.cons (o := ⟨some 21, _, _, _, _, _⟩) rfl (fun K hK => ?_) (AllReadyH.cons (o := ⟨some 23, _, _, _, _, _⟩) rfl (fun K hK => ?_) AllReadyH.nil)
                                          · obtain ⟨n2, wx2, hrun, hR2⟩ := hR.e3
                                            refine step_append_run rfl (.tmp 18) (.tmp 20) 29 rfl _ _ _ _ rfl rfl hrun ?_
                                            clear hrun
                                            refine hK.out _ _ ?_ (fun hHeldX => ?_)
                                            · exact HX.out _ hR2.low
                                            clear hK K hHeld
                                            rename _ => hHeld
                                            try simp only [Act.put, List.setIfInBounds_toArray, List.set_cons_zero, List.set_cons_succ]
                                            clear hR
                                            revert hHeld
                                            revert hR2
                                            revert z
                                            revert y
                                            revert x13
                                            revert x10
                                            revert x7
                                            revert v6
                                            revert n2
                                            revert v0
                                            revert wx2
                                            try clear v3
                                            exact T11
                                          · go_simp
                                            obtain ⟨n2, wx2, e1, e2, hR2⟩ := hR.e5
                                            rw [e1, e2]
                                            clear e1 e2
                                            refine hK.out _ _ ?_ (fun hHeldX => ?_)
                                            · exact HX.out _ hR2.low
                                            clear hK K hHeld
                                            rename _ => hHeld
                                            try simp only [Act.put, List.setIfInBounds_toArray, List.set_cons_zero, List.set_cons_succ]
                                            clear hR
                                            revert hHeld
                                            revert hR2
                                            revert z
                                            revert n2
                                            revert x13
                                            revert x10
                                            revert x7
                                            revert v6
                                            revert v3
                                            revert v0
                                            revert wx2
                                            try clear y
                                            exact T15
                                      · intro wx v0 v3 v6 x7 x10 x13 y z hR hHeld
                                        refine wpAnyH_ready (rs := [3, 7, 12]) (by kernel_rfl) (by simp) ?_
                                        refine AllReadyH.cons (o := ⟨some 21, _, _, _, _, _⟩) rfl (fun K hK => ?_) (AllReadyH.cons (o := ⟨some 25, _, _, _, _, _⟩) rfl (fun K hK => ?_) (AllReadyH.cons (o := ⟨some 30, _, _, _, _, _⟩) rfl (fun K hK => ?_) AllReadyH.nil))
                                        · obtain ⟨n2, wx2, hrun, hR2⟩ := hR.e3
                                          refine step_append_run rfl (.tmp 18) (.tmp 20) 29 rfl _ _ _ _ rfl rfl hrun ?_
                                          clear hrun
                                          refine hK.out _ _ ?_ (fun hHeldX => ?_)
                                          · exact HX.out _ hR2.low
                                          clear hK K hHeld
                                          rename _ => hHeld
                                          try simp only [Act.put, List.setIfInBounds_toArray, List.set_cons_zero, List.set_cons_succ]
                                          clear hR
                                          revert hHeld
                                          revert hR2
                                          revert z
                                          revert y
                                          revert x13
                                          revert x10
                                          revert x7
                                          revert v6
                                          revert n2
                                          revert v0
                                          revert wx2
                                          try clear v3
                                          exact T10
                                        · go_simp
                                          obtain ⟨n2, wx2, e1, e2, hR2⟩ := hR.e7
                                          rw [e1, e2]
                                          clear e1 e2
                                          refine hK.out _ _ ?_ (fun hHeldX => ?_)
                                          · exact HX.out _ hR2.low
                                          clear hK K hHeld
                                          rename _ => hHeld
                                          try simp only [Act.put, List.setIfInBounds_toArray, List.set_cons_zero, List.set_cons_succ]
                                          clear hR
                                          revert hHeld
                                          revert hR2
                                          revert z
                                          revert y
                                          revert x13
                                          revert x10
                                          revert n2
                                          revert v6
                                          revert v3
                                          revert v0
                                          revert wx2
                                          try clear x7
                                          exact T16
                                        · go_simp
                                          obtain ⟨n2, wx2, e1, e2, hR2⟩ := hR.e12
                                          rw [e1, e2]
                                          clear e1 e2
                                          refine hK.out _ _ ?_ (fun hHeldX => ?_)
                                          · exact HX.out _ hR2.low
                                          clear hK K hHeld
                                          rename _ => hHeld
                                          try simp only [Act.put, List.setIfInBounds_toArray, List.set_cons_zero, List.set_cons_succ]
                                          clear hR
                                          revert hHeld
                                          revert hR2
                                          revert n2
                                          revert y
                                          revert x13
                                          revert x10
                                          revert x7
                                          revert v6
                                          revert v3
                                          revert v0
                                          revert wx2
                                          try clear z
                                          exact T17
                                    · intro wx v0 v3 v6 x7 x10 x13 y z hR hHeld
                                      refine wpAnyH_ready (rs := [3, 7]) (by kernel_rfl) (by simp) ?_
                                      refine AllReadyH.cons (o := ⟨some 21, _, _, _, _, _⟩) rfl (fun K hK => ?_) (AllReadyH.cons (o := ⟨some 25, _, _, _, _, _⟩) rfl (fun K hK => ?_) AllReadyH.nil)
                                      · obtain ⟨n2, wx2, hrun, hR2⟩ := hR.e3
                                        refine step_append_run rfl (.tmp 18) (.tmp 20) 29 rfl _ _ _ _ rfl rfl hrun ?_
                                        clear hrun
                                        refine hK.out _ _ ?_ (fun hHeldX => ?_)
                                        · exact HX.out _ hR2.low
                                        clear hK K hHeld
                                        rename _ => hHeld
                                        try simp only [Act.put, List.setIfInBounds_toArray, List.set_cons_zero, List.set_cons_succ]
                                        clear hR
                                        revert hHeld
                                        revert hR2
                                        revert z
                                        revert y
                                        revert x13
                                        revert x10
                                        revert x7
                                        revert v6
                                        revert n2
                                        revert v0
                                        revert wx2
                                        try clear v3
                                        exact T9
                                      · go_simp
                                        obtain ⟨n2, wx2, e1, e2, hR2⟩ := hR.e7
                                        rw [e1, e2]
                                        clear e1 e2
                                        refine hK.out _ _ ?_ (fun hHeldX => ?_)
                                        · exact HX.out _ hR2.low
                                        clear hK K hHeld
                                        rename _ => hHeld
                                        try simp only [Act.put, List.setIfInBounds_toArray, List.set_cons_zero, List.set_cons_succ]
                                        clear hR
                                        revert hHeld
                                        revert hR2
                                        revert z
                                        revert y
                                        revert x13
                                        revert x10
                                        revert n2
                                        revert v6
                                        revert v3
                                        revert v0
                                        revert wx2
                                        try clear x7
                                        exact T15
                                  · intro wx v0 v3 v6 x7 x10 x13 y z hR hHeld
                                    refine wpAnyH_ready (rs := [3, 12]) (by kernel_rfl) (by simp) ?_
                                    refine AllReadyH.cons (o := ⟨some 21, _, _, _, _, _⟩) rfl (fun K hK => ?_) (AllReadyH.cons (o := ⟨some 30, _, _, _, _, _⟩) rfl (fun K hK => ?_) AllReadyH.nil)
                                    · obtain ⟨n2, wx2, hrun, hR2⟩ := hR.e3
                                      refine step_append_run rfl (.tmp 18) (.tmp 20) 29 rfl _ _ _ _ rfl rfl hrun ?_
                                      clear hrun
                                      refine hK.out _ _ ?_ (fun hHeldX => ?_)
                                      · exact HX.out _ hR2.low
                                      clear hK K hHeld
                                      rename _ => hHeld
                                      try simp only [Act.put, List.setIfInBounds_toArray, List.set_cons_zero, List.set_cons_succ]
                                      clear hR
                                      revert hHeld
                                      revert hR2
                                      revert z
                                      revert y
                                      revert x13
                                      revert x10
                                      revert x7
                                      revert v6
                                      revert n2
                                      revert v0
                                      revert wx2
                                      try clear v3
                                      exact T8
                                    · go_simp
                                      obtain ⟨n2, wx2, e1, e2, hR2⟩ := hR.e12
                                      rw [e1, e2]
                                      clear e1 e2
                                      refine hK.out _ _ ?_ (fun hHeldX => ?_)
                                      · exact HX.out _ hR2.low
                                      clear hK K hHeld
                                      rename _ => hHeld
                                      try simp only [Act.put, List.setIfInBounds_toArray, List.set_cons_zero, List.set_cons_succ]
                                      clear hR
                                      revert hHeld
                                      revert hR2
                                      revert n2
                                      revert y
                                      revert x13
                                      revert x10
                                      revert x7
                                      revert v6
                                      revert v3
                                      revert v0
                                      revert wx2
                                      try clear z
                                      exact T15
                                · intro wx v0 v3 v6 x7 x10 x13 y z hR hHeld
                                  refine wpAnyH_ready (rs := [3]) (by kernel_rfl) (by simp) ?_
                                  refine AllReadyH.cons (o := ⟨some 21, _, _, _, _, _⟩) rfl (fun K hK => ?_) AllReadyH.nil
                                  · obtain ⟨n2, wx2, hrun, hR2⟩ := hR.e3
                                    refine step_append_run rfl (.tmp 18) (.tmp 20) 29 rfl _ _ _ _ rfl rfl hrun ?_
                                    clear hrun
                                    refine hK.out _ _ ?_ (fun hHeldX => ?_)
                                    · exact HX.out _ hR2.low
                                    clear hK K hHeld
                                    rename _ => hHeld
                                    try simp only [Act.put, List.setIfInBounds_toArray, List.set_cons_zero, List.set_cons_succ]
                                    clear hR
                                    revert hHeld
                                    revert hR2
                                    revert z
                                    revert y
                                    revert x13
                                    revert x10
                                    revert x7
                                    revert v6
                                    revert n2
                                    revert v0
                                    revert wx2
                                    try clear v3
                                    exact T7
                              · intro wx v0 v3 v6 x7 x10 x13 y z hR hHeld
                                refine wpAnyH_ready (rs := [5, 7, 12]) (by kernel_rfl) (by simp) ?_
                                refine AllReadyH.cons (o := ⟨some 23, _, _, _, _, _⟩) rfl (fun K hK => ?_) (AllReadyH.cons (o := ⟨some 25, _, _, _, _, _⟩) rfl (fun K hK => ?_) (AllReadyH.cons (o := ⟨some 30, _, _, _, _, _⟩) rfl (fun K hK => ?_) AllReadyH.nil))
                                · go_simp
                                  obtain ⟨n2, wx2, e1, e2, hR2⟩ := hR.e5
                                  rw [e1, e2]
                                  clear e1 e2
                                  refine hK.out _ _ ?_ (fun hHeldX => ?_)
                                  · exact HX.out _ hR2.low
                                  clear hK K hHeld
                                  rename _ => hHeld
                                  try simp only [Act.put, List.setIfInBounds_toArray, List.set_cons_zero, List.set_cons_succ]
                                  clear hR
                                  revert hHeld
                                  revert hR2
                                  revert z
                                  revert n2
                                  revert x13
                                  revert x10
                                  revert x7
                                  revert v6
                                  revert v3
                                  revert v0
                                  revert wx2
                                  try clear y
                                  exact T10
                                · go_simp
                                  obtain ⟨n2, wx2, e1, e2, hR2⟩ := hR.e7
                                  rw [e1, e2]
                                  clear e1 e2
                                  refine hK.out _ _ ?_ (fun hHeldX => ?_)
                                  · exact HX.out _ hR2.low
                                  clear hK K hHeld
                                  rename _ => hHeld
                                  try simp only [Act.put, List.setIfInBounds_toArray, List.set_cons_zero, List.set_cons_succ]
                                  clear hR
                                  revert hHeld
                                  revert hR2
                                  revert z
                                  revert y
                                  revert x13
                                  revert x10
                                  revert n2
                                  revert v6
                                  revert v3
                                  revert v0
                                  revert wx2
                                  try clear x7
                                  exact T12
                                · go_simp
                                  obtain ⟨n2, wx2, e1, e2, hR2⟩ := hR.e12
                                  rw [e1, e2]
                                  clear e1 e2
                                  refine hK.out _ _ ?_ (fun hHeldX => ?_)
                                  · exact HX.out _ hR2.low
                                  clear hK K hHeld
                                  rename _ => hHeld
                                  try simp only [Act.put, List.setIfInBounds_toArray, List.set_cons_zero, List.set_cons_succ]
                                  clear hR
                                  revert hHeld
                                  revert hR2
                                  revert n2
                                  revert y
                                  revert x13
                                  revert x10
                                  revert x7
                                  revert v6
                                  revert v3
                                  revert v0
                                  revert wx2
                                  try clear z
                                  exact T13
                            · intro wx v0 v3 v6 x7 x10 x13 y z hR hHeld
                              refine wpAnyH_ready (rs := [5, 7]) (by kernel_rfl) (by simp) ?_
                              refine AllReadyH.cons (o := ⟨some 23, _, _, _, _, _⟩) rfl (fun K hK => ?_) (AllReadyH.cons (o := ⟨some 25, _, _, _, _, _⟩) rfl (fun K hK => ?_) AllReadyH.nil)
                              · go_simp
                                obtain ⟨n2, wx2, e1, e2, hR2⟩ := hR.e5
                                rw [e1, e2]
                                clear e1 e2
                                refine hK.out _ _ ?_ (fun hHeldX => ?_)
                                · exact HX.out _ hR2.low
                                clear hK K hHeld
                                rename _ => hHeld
                                try simp only [Act.put, List.setIfInBounds_toArray, List.set_cons_zero, List.set_cons_succ]
                                clear hR
                                revert hHeld
                                revert hR2
                                revert z
                                revert n2
                                revert x13
                                revert x10
                                revert x7
                                revert v6
                                revert v3
                                revert v0
                                revert wx2
                                try clear y
                                exact T9
                              · go_simp
                                obtain ⟨n2, wx2, e1, e2, hR2⟩ := hR.e7
                                rw [e1, e2]
                                clear e1 e2
                                refine hK.out _ _ ?_ (fun hHeldX => ?_)
                                · exact HX.out _ hR2.low
                                clear hK K hHeld
                                rename _ => hHeld
                                try simp only [Act.put, List.setIfInBounds_toArray, List.set_cons_zero, List.set_cons_succ]
                                clear hR
                                revert hHeld
                                revert hR2
                                revert z
                                revert y
                                revert x13
                                revert x10
                                revert n2
                                revert v6
                                revert v3
                                revert v0
                                revert wx2
                                try clear x7
                                exact T11
                          · intro wx v0 v3 v6 x7 x10 x13 y z hR hHeld
                            refine wpAnyH_ready (rs := [5, 12]) (by kernel_rfl) (by simp) ?_
                            refine AllReadyH.cons (o := ⟨some 23, _, _, _, _, _⟩) rfl (fun K hK => ?_) (AllReadyH.cons (o := ⟨some 30, _, _, _, _, _⟩) rfl (fun K hK => ?_) AllReadyH.nil)
                            · go_simp
                              obtain ⟨n2, wx2, e1, e2, hR2⟩ := hR.e5
                              rw [e1, e2]
                              clear e1 e2
                              refine hK.out _ _ ?_ (fun hHeldX => ?_)
                              · exact HX.out _ hR2.low
                              clear hK K hHeld
                              rename _ => hHeld
                              try simp only [Act.put, List.setIfInBounds_toArray, List.set_cons_zero, List.set_cons_succ]
                              clear hR
                              revert hHeld
                              revert hR2
                              revert z
                              revert n2
                              revert x13
                              revert x10
                              revert x7
                              revert v6
                              revert v3
                              revert v0
                              revert wx2
                              try clear y
                              exact T8
                            · go_simp
                              obtain ⟨n2, wx2, e1, e2, hR2⟩ := hR.e12
                              rw [e1, e2]
                              clear e1 e2
                              refine hK.out _ _ ?_ (fun hHeldX => ?_)
                              · exact HX.out _ hR2.low
                              clear hK K hHeld
                              rename _ => hHeld
                              try simp only [Act.put, List.setIfInBounds_toArray, List.set_cons_zero, List.set_cons_succ]
                              clear hR
                              revert hHeld
                              revert hR2
                              revert n2
                              revert y
                              revert x13
                              revert x10
                              revert x7
                              revert v6
                              revert v3
                              revert v0
                              revert wx2
                              try clear z
                              exact T11
                        · intro wx v0 v3 v6 x7 x10 x13 y z hR hHeld
                          refine wpAnyH_ready (rs := [5]) (by kernel_rfl) (by simp) ?_
                          refine AllReadyH.cons (o := ⟨some 23, _, _, _, _, _⟩) rfl (fun K hK => ?_) AllReadyH.nil
                          · go_simp
                            obtain ⟨n2, wx2, e1, e2, hR2⟩ := hR.e5
                            rw [e1, e2]
                            clear e1 e2
                            refine hK.out _ _ ?_ (fun hHeldX => ?_)
                            · exact HX.out _ hR2.low
                            clear hK K hHeld
                            rename _ => hHeld
                            try simp only [Act.put, List.setIfInBounds_toArray, List.set_cons_zero, List.set_cons_succ]
                            clear hR
                            revert hHeld
                            revert hR2
                            revert z
                            revert n2
                            revert x13
                            revert x10
                            revert x7
                            revert v6
                            revert v3
                            revert v0
                            revert wx2
                            try clear y
                            exact T7
                      · intro wx v0 v3 v6 x7 x10 x13 y z hR hHeld
                        refine wpAnyH_ready (rs := [6, 7, 12]) (by kernel_rfl) (by simp) ?_
                        refine AllReadyH.cons (o := ⟨some 24, _, _, _, _, _⟩) rfl (fun K hK => ?_) (AllReadyH.cons (o := ⟨some 25, _, _, _, _, _⟩) rfl (fun K hK => ?_) (AllReadyH.cons (o := ⟨some 30, _, _, _, _, _⟩) rfl (fun K hK => ?_) AllReadyH.nil))
                        · obtain ⟨n2, wx2, hrun, hR2⟩ := hR.e6
                          refine step_append_run rfl (.tmp 21) (.tmp 23) 29 rfl _ _ _ _ rfl rfl hrun ?_
                          clear hrun
                          refine hK.out _ _ ?_ (fun hHeldX => ?_)
                          · exact HX.out _ hR2.low
                          clear hK K hHeld
                          rename _ => hHeld
                          try simp only [Act.put, List.setIfInBounds_toArray, List.set_cons_zero, List.set_cons_succ]
                          clear hR
                          revert hHeld
                          revert hR2
                          revert z
                          revert y
                          revert x13
                          revert x10
                          revert x7
                          revert n2
                          revert v3
                          revert v0
                          revert wx2
                          try clear v6
                          exact T6
                        · go_simp
                          obtain ⟨n2, wx2, e1, e2, hR2⟩ := hR.e7
                          rw [e1, e2]
                          clear e1 e2
                          refine hK.out _ _ ?_ (fun hHeldX => ?_)
                          · exact HX.out _ hR2.low
                          clear hK K hHeld
                          rename _ => hHeld
                          try simp only [Act.put, List.setIfInBounds_toArray, List.set_cons_zero, List.set_cons_succ]
                          clear hR
                          revert hHeld
                          revert hR2
                          revert z
                          revert y
                          revert x13
                          revert x10
                          revert n2
                          revert v6
                          revert v3
                          revert v0
                          revert wx2
                          try clear x7
                          exact T8
                        · go_simp
                          obtain ⟨n2, wx2, e1, e2, hR2⟩ := hR.e12
                          rw [e1, e2]
                          clear e1 e2
                          refine hK.out _ _ ?_ (fun hHeldX => ?_)
                          · exact HX.out _ hR2.low
                          clear hK K hHeld
                          rename _ => hHeld
                          try simp only [Act.put, List.setIfInBounds_toArray, List.set_cons_zero, List.set_cons_succ]
                          clear hR
                          revert hHeld
                          revert hR2
                          revert n2
                          revert y
                          revert x13
                          revert x10
                          revert x7
                          revert v6
                          revert v3
                          revert v0
                          revert wx2
                          try clear z
                          exact T9
                    · intro wx v0 v3 v6 x7 x10 x13 y z hR hHeld
                      refine wpAnyH_ready (rs := [6, 7]) (by kernel_rfl) (by simp) ?_
                      refine AllReadyH.cons (o := ⟨some 24, _, _, _, _, _⟩) rfl (fun K hK => ?_) (AllReadyH.cons (o := ⟨some 25, _, _, _, _, _⟩) rfl (fun K hK => ?_) AllReadyH.nil)
                      · obtain ⟨n2, wx2, hrun, hR2⟩ := hR.e6
                        refine step_append_run rfl (.tmp 21) (.tmp 23) 29 rfl _ _ _ _ rfl rfl hrun ?_
                        clear hrun
                        refine hK.out _ _ ?_ (fun hHeldX => ?_)
                        · exact HX.out _ hR2.low
                        clear hK K hHeld
                        rename _ => hHeld
                        try simp only [Act.put, List.setIfInBounds_toArray, List.set_cons_zero, List.set_cons_succ]
                        clear hR
                        revert hHeld
                        revert hR2
                        revert z
                        revert y
                        revert x13
                        revert x10
                        revert x7
                        revert n2
                        revert v3
                        revert v0
                        revert wx2
                        try clear v6
                        exact T5
                      · go_simp
                        obtain ⟨n2, wx2, e1, e2, hR2⟩ := hR.e7
                        rw [e1, e2]
                        clear e1 e2
                        refine hK.out _ _ ?_ (fun hHeldX => ?_)
                        · exact HX.out _ hR2.low
                        clear hK K hHeld
                        rename _ => hHeld
                        try simp only [Act.put, List.setIfInBounds_toArray, List.set_cons_zero, List.set_cons_succ]
                        clear hR
                        revert hHeld
                        revert hR2
                        revert z
                        revert y
                        revert x13
                        revert x10
                        revert n2
                        revert v6
                        revert v3
                        revert v0
                        revert wx2
                        try clear x7
                        exact T7
                  · intro wx v0 v3 v6 x7 x10 x13 y z hR hHeld
                    refine wpAnyH_ready (rs := [6, 12]) (by kernel_rfl) (by simp) ?_
                    refine AllReadyH.cons (o := ⟨some 24, _, _, _, _, _⟩) rfl (fun K hK => ?_) (AllReadyH.cons (o := ⟨some 30, _, _, _, _, _⟩) rfl (fun K hK => ?_) AllReadyH.nil)
                    · obtain ⟨n2, wx2, hrun, hR2⟩ := hR.e6
                      refine step_append_run rfl (.tmp 21) (.tmp 23) 29 rfl _ _ _ _ rfl rfl hrun ?_
                      clear hrun
                      refine hK.out _ _ ?_ (fun hHeldX => ?_)
                      · exact HX.out _ hR2.low
                      clear hK K hHeld
                      rename _ => hHeld
                      try simp only [Act.put, List.setIfInBounds_toArray, List.set_cons_zero, List.set_cons_succ]
                      clear hR
                      revert hHeld
                      revert hR2
                      revert z
                      revert y
                      revert x13
                      revert x10
                      revert x7
                      revert n2
                      revert v3
                      revert v0
                      revert wx2
                      try clear v6
                      exact T4
                    · go_simp
                      obtain ⟨n2, wx2, e1, e2, hR2⟩ := hR.e12
                      rw [e1, e2]
                      clear e1 e2
                      refine hK.out _ _ ?_ (fun hHeldX => ?_)
                      · exact HX.out _ hR2.low
                      clear hK K hHeld
                      rename _ => hHeld
                      try simp only [Act.put, List.setIfInBounds_toArray, List.set_cons_zero, List.set_cons_succ]
                      clear hR
                      revert hHeld
                      revert hR2
                      revert n2
                      revert y
                      revert x13
                      revert x10
                      revert x7
                      revert v6
                      revert v3
                      revert v0
                      revert wx2
                      try clear z
                      exact T7
                · intro wx v0 v3 v6 x7 x10 x13 y z hR hHeld
                  refine wpAnyH_ready (rs := [6]) (by kernel_rfl) (by simp) ?_
                  refine AllReadyH.cons (o := ⟨some 24, _, _, _, _, _⟩) rfl (fun K hK => ?_) AllReadyH.nil
                  · obtain ⟨n2, wx2, hrun, hR2⟩ := hR.e6
                    refine step_append_run rfl (.tmp 21) (.tmp 23) 29 rfl _ _ _ _ rfl rfl hrun ?_
                    clear hrun
                    refine hK.out _ _ ?_ (fun hHeldX => ?_)
                    · exact HX.out _ hR2.low
                    clear hK K hHeld
                    rename _ => hHeld
                    try simp only [Act.put, List.setIfInBounds_toArray, List.set_cons_zero, List.set_cons_succ]
                    clear hR
                    revert hHeld
                    revert hR2
                    revert z
                    revert y
                    revert x13
                    revert x10
                    revert x7
                    revert n2
                    revert v3
                    revert v0
                    revert wx2
                    try clear v6
                    exact T3
              · intro wx v0 v3 v6 x7 x10 x13 y z hR hHeld
                refine wpAnyH_ready (rs := [7, 12]) (by kernel_rfl) (by simp) ?_
                refine AllReadyH.cons (o := ⟨some 25, _, _, _, _, _⟩) rfl (fun K hK => ?_) (AllReadyH.cons (o := ⟨some 30, _, _, _, _, _⟩) rfl (fun K hK => ?_) AllReadyH.nil)
                · go_simp
                  obtain ⟨n2, wx2, e1, e2, hR2⟩ := hR.e7
                  rw [e1, e2]
                  clear e1 e2
                  refine hK.out _ _ ?_ (fun hHeldX => ?_)
                  · exact HX.out _ hR2.low
                  clear hK K hHeld
                  rename _ => hHeld
                  try simp only [Act.put, List.setIfInBounds_toArray, List.set_cons_zero, List.set_cons_succ]
                  clear hR
                  revert hHeld
                  revert hR2
                  revert z
                  revert y
                  revert x13
                  revert x10
                  revert n2
                  revert v6
                  revert v3
                  revert v0
                  revert wx2
                  try clear x7
                  exact T4
                · go_simp
                  obtain ⟨n2, wx2, e1, e2, hR2⟩ := hR.e12
                  rw [e1, e2]
                  clear e1 e2
                  refine hK.out _ _ ?_ (fun hHeldX => ?_)
                  · exact HX.out _ hR2.low
                  clear hK K hHeld
                  rename _ => hHeld
                  try simp only [Act.put, List.setIfInBounds_toArray, List.set_cons_zero, List.set_cons_succ]
                  clear hR
                  revert hHeld
                  revert hR2
                  revert n2
                  revert y
                  revert x13
                  revert x10
                  revert x7
                  revert v6
                  revert v3
                  revert v0
                  revert wx2
                  try clear z
                  exact T5
            · intro wx v0 v3 v6 x7 x10 x13 y z hR hHeld
              refine wpAnyH_ready (rs := [7]) (by kernel_rfl) (by simp) ?_
              refine AllReadyH.cons (o := ⟨some 25, _, _, _, _, _⟩) rfl (fun K hK => ?_) AllReadyH.nil
              · go_simp
                obtain ⟨n2, wx2, e1, e2, hR2⟩ := hR.e7
                rw [e1, e2]
                clear e1 e2
                refine hK.out _ _ ?_ (fun hHeldX => ?_)
                · exact HX.out _ hR2.low
                clear hK K hHeld
                rename _ => hHeld
                try simp only [Act.put, List.setIfInBounds_toArray, List.set_cons_zero, List.set_cons_succ]
                clear hR
                revert hHeld
                revert hR2
                revert z
                revert y
                revert x13
                revert x10
                revert n2
                revert v6
                revert v3
                revert v0
                revert wx2
                try clear x7
                exact T3
          · intro wx v0 v3 v6 x7 x10 x13 y z hR hHeld
            refine wpAnyH_ready (rs := [10, 12]) (by kernel_rfl) (by simp) ?_
            refine AllReadyH.cons (o := ⟨some 28, _, _, _, _, _⟩) rfl (fun K hK => ?_) (AllReadyH.cons (o := ⟨some 30, _, _, _, _, _⟩) rfl (fun K hK => ?_) AllReadyH.nil)
            · obtain ⟨n2, wx2, hrun, hR2⟩ := hR.e10
              refine step_append_run rfl (.tmp 25) (.tmp 27) 30 rfl _ _ _ _ rfl rfl hrun ?_
              clear hrun
              refine hK.out _ _ ?_ (fun hHeldX => ?_)
              · exact HX.out _ hR2.low
              clear hK K hHeld
              rename _ => hHeld
              try simp only [Act.put, List.setIfInBounds_toArray, List.set_cons_zero, List.set_cons_succ]
              clear hR
              revert hHeld
              revert hR2
              revert z
              revert y
              revert x13
              revert n2
              revert x7
              revert v6
              revert v3
              revert v0
              revert wx2
              try clear x10
              exact T2
            · go_simp
              obtain ⟨n2, wx2, e1, e2, hR2⟩ := hR.e12
              rw [e1, e2]
              clear e1 e2
              refine hK.out _ _ ?_ (fun hHeldX => ?_)
              · exact HX.out _ hR2.low
              clear hK K hHeld
              rename _ => hHeld
              try simp only [Act.put, List.setIfInBounds_toArray, List.set_cons_zero, List.set_cons_succ]
              clear hR
              revert hHeld
              revert hR2
              revert n2
              revert y
              revert x13
              revert x10
              revert x7
              revert v6
              revert v3
              revert v0
              revert wx2
              try clear z
              exact T3
        · intro wx v0 v3 v6 x7 x10 x13 y z hR hHeld
          refine wpAnyH_ready (rs := [10]) (by kernel_rfl) (by simp) ?_
          refine AllReadyH.cons (o := ⟨some 28, _, _, _, _, _⟩) rfl (fun K hK => ?_) AllReadyH.nil
          · obtain ⟨n2, wx2, hrun, hR2⟩ := hR.e10
            refine step_append_run rfl (.tmp 25) (.tmp 27) 30 rfl _ _ _ _ rfl rfl hrun ?_
            clear hrun
            refine hK.out _ _ ?_ (fun hHeldX => ?_)
            · exact HX.out _ hR2.low
            clear hK K hHeld
            rename _ => hHeld
            try simp only [Act.put, List.setIfInBounds_toArray, List.set_cons_zero, List.set_cons_succ]
            clear hR
            revert hHeld
            revert hR2
            revert z
            revert y
            revert x13
            revert n2
            revert x7
            revert v6
            revert v3
            revert v0
            revert wx2
            try clear x10
            exact T1
      · intro wx v0 v3 v6 x7 x10 x13 y z hR hHeld
        refine wpAnyH_ready (rs := [12]) (by kernel_rfl) (by simp) ?_
        refine AllReadyH.cons (o := ⟨some 30, _, _, _, _, _⟩) rfl (fun K hK => ?_) AllReadyH.nil
        · go_simp
          obtain ⟨n2, wx2, e1, e2, hR2⟩ := hR.e12
          rw [e1, e2]
          clear e1 e2
          refine hK.out _ _ ?_ (fun hHeldX => ?_)
          · exact HX.out _ hR2.low
          clear hK K hHeld
          rename _ => hHeld
          try simp only [Act.put, List.setIfInBounds_toArray, List.set_cons_zero, List.set_cons_succ]
          clear hR
          revert hHeld
          revert hR2
          revert n2
          revert y
          revert x13
          revert x10
          revert x7
          revert v6
          revert v3
          revert v0
          revert wx2
          try clear z
          exact T1
    · intro wx v0 v3 v6 x7 x10 x13 y z hR hHeld
      refine wpAnyH_ready (rs := [13]) (by kernel_rfl) (by simp) ?_
      refine AllReadyH.cons (o := ⟨some 31, _, _, _, _, _⟩) rfl (fun K hK => ?_) AllReadyH.nil
      · obtain ⟨n2, wx2, hrun, hR2⟩ := hR.e13
        refine step_append_run rfl (.tmp 28) (.tmp 30) 30 rfl _ _ _ _ rfl rfl hrun ?_
        clear hrun
        refine hK.out _ _ ?_ (fun hHeldX => ?_)
        · exact HX.out _ hR2.low
        clear hK K hHeld
        rename _ => hHeld
        try simp only [Act.put, List.setIfInBounds_toArray, List.set_cons_zero, List.set_cons_succ]
        clear hR
        revert hHeld
        revert hR2
        revert z
        revert y
        revert n2
        revert x10
        revert x7
        revert v6
        revert v3
        revert v0
        revert wx2
        try clear x13
        exact T0
  · intro wx v0 v3 v6 x7 x10 x13 y z hR hHeld
    obtain ⟨a1, n1, c1, a2, n2, c2, rfl, rfl, hfin⟩ := hR.made (S := fun k => S k ∨ k = w.heap.size + 1) (fun k hk e => e.elim (fun e => HSS.out k (Nat.le_trans B4.out.size hk) e) (fun e => by have := HD.out.2.lt; omega))
    have HFIN := Lib.hid hfin
    have HLOW := Lib.hid (And.intro (below_step B4.out hR.low) (HD.out.2.below hR.low HD.out.2.lt))
    clear hfin hR
    have HEB : Hid (w.heap.size < wx.heap.size) := Lib.hid (by have := HLOW.out.2.lt; omega)
    refine wpAnyH_take (i := 14) (oi := ⟨some 32, _, _, _, _, _⟩) (v := ?_) rfl (by kernel_rfl) (by kernel_rfl) (by kernel_rfl) (fun _ _ _ h => h) (Or.inl ⟨by rfl, ?_⟩) (by assumption) ?_
    rotate_left
    · (intro w hSw; (try dsimp only at hSw); go_simp; try with_reducible rfl)
    try simp only [Act.put, List.setIfInBounds_toArray, List.set_cons_zero, List.set_cons_succ]
    refine wpAnyH_ready (rs := [15]) (by kernel_rfl) (by simp) ?_
    refine AllReadyH.cons (o := ⟨none, _, _, _, _, _⟩) rfl (fun K hK => ?_) AllReadyH.nil
    have cX := HLOW.out.2.at (o := 0) rfl
    have cY := HLOW.out.2.at (o := 1) rfl
    have fX := HLOW.out.2.frozen 0
    have fY := HLOW.out.2.frozen 1
    go_simp
    clear cX cY fX fY
    refine hK.out _ _ ?_ (fun hHeldX => ?_)
    · exact ⟨(World.cell?_of_block ((only_put13 _ (w.heap.size + 1) _ _).block w.heap.size (by have := HEB.out; omega) (by omega))).trans hHeld.1, (World.cell?_of_block ((only_put13 _ (w.heap.size + 1) _ _).block w.heap.size (by have := HEB.out; omega) (by omega))).trans hHeld.2⟩
    clear hK K hHeld
    rename _ => hHeld
    try simp only [Act.put, List.setIfInBounds_toArray, List.set_cons_zero, List.set_cons_succ]
    refine wpAnyH_take (i := 16) (oi := ⟨some 7, _, _, _, _, _⟩) (v := ?_) rfl (by kernel_rfl) (by kernel_rfl) (by kernel_rfl) (fun _ _ _ h => h) (Or.inl ⟨by rfl, ?_⟩) (by assumption) ?_
    rotate_left
    · (intro w hSw; (try dsimp only at hSw); go_simp; try with_reducible rfl)
    try simp only [Act.put, List.setIfInBounds_toArray, List.set_cons_zero, List.set_cons_succ]
    refine wpAnyH_done (by kernel_rfl) ?_ _
    refine NoPanic.normal ?_
    have HEND := Lib.hid HLOW.out
    have hr := blk_put13 HEND.out.2 (.slice a1 n1 c1) (.slice a2 n2 c2)
    have r0 := hr.at (o := 0) rfl
    have r1 := hr.at (o := 1) rfl
    clear hr hHeld
    go_wp2
    refine bodyPost_ret (by simp [results, Tryz.f10, go_sem, r0, r1]; rfl) rfl ?_
    exact ⟨_, rfl, by
      obtain ⟨ka', kc', va', vc', e1, e2, e3, e4, e5⟩ := HFIN.out.only (only_put13 _ (w.heap.size + 1) (.slice a1 n1 c1) (.slice a2 n2 c2)) (fun k e => .inr e)
      exact ⟨ka', kc', va', vc', e1, e2, e3, fun g o n c he hg => e4 g o n c he (.inl hg), fun g o n c he hg => e5 g o n c he (.inl hg)⟩, (HEND.out.1.setCell (p := ⟨w.heap.size + 1, 0, none⟩) (Nat.le_succ _) _).setCell (p := ⟨w.heap.size + 1, 1, none⟩) (Nat.le_succ _) _⟩
end Go.Proofs.YtmfejpbijllojaaGreat

namespace Go.Proofs.YtmfejpbijllojaaGreat
open Go.RowKit Go.Shelf

set_option maxRecDepth 100000 in
set_option maxHeartbeats 2000000 in
theorem rf_add_bad {S : Nat → Prop} (v0 : Value) (P : List Pr) (f : Key) (s : Int) (w : World) (h : RfAt S w v0 P) (hfl : f.length ≤ 1048576) (hf : filterZ f = false) :
    Calls Tryz.prog 10 #[v0, keyV f, .int .i64 s] w fun e w' => e = .returned (.tuple #[v0, .int .i64 3]) ∧ Below w.heap.size w w' := by
  have HF : Hid (∀ W, Calls Tryz.prog 25 #[keyV f] W fun e w' => e = .returned (.bool false) ∧ Below W.heap.size W w') := Lib.hid fun W => by
    have := ref_Filter ⟨f.toArray⟩ W (by simpa [ByteArray.size] using hfl)
    rw [hf] at this; exact this
  obtain ⟨ka, kc, va, vc, rfl, _⟩ := h
  clear hf
  go_enter Tryz.func10, Tryz.ntmps10
  go_wp2_with fail
  obtain ⟨W2, hW2, B2, b0, b1⟩ := twoR w (.slice ka P.length kc) (.slice va P.length vc)
  rw [hW2]
  clear hW2
  refine (HF.out _).mono ?_
  rintro e w3 ⟨rfl, hB3⟩
  have B3 := Lib.hid (below_step B2 hB3)
  have c0 := b0.below hB3 b0.lt
  have c1 := b1.below hB3 b1.lt
  have k0 := c0.at (o := 0) rfl
  have k1 := c0.at (o := 1) rfl
  have f1 := c1.frozen 0
  have f2 := c1.frozen 1
  have m0 := c1.at (o := 0) rfl
  have m1 := c1.at (o := 1) rfl
  have HE1 := Lib.hid c1
  clear hB3 b0 b1 B2 c0 c1 HF
  go_wp2
  have hr := blk_put13 HE1.out (.slice ka P.length kc) (.slice va P.length vc)
  have r0 := hr.at (o := 0) rfl
  have r1 := hr.at (o := 1) rfl
  refine bodyPost_ret (by simp [results, Tryz.f10, go_sem, r0, r1]; rfl) rfl ?_
  exact ⟨rfl, (B3.out.setCell (p := ⟨w.heap.size + 1, 0, none⟩) (Nat.le_succ _) _).setCell (p := ⟨w.heap.size + 1, 1, none⟩) (Nat.le_succ _) _⟩
set_option maxRecDepth 100000 in
set_option maxHeartbeats 2000000 in
theorem rf_add_same {S : Nat → Prop} (v0 : Value) (P : List Pr) (f : Key) (s : Int) (w : World) (h : RfAt S w v0 P) (hbig : P.length ≤ 10000) (hfl : f.length ≤ 1048576) (hf : filterZ f = true) (hn : (f, s) ∈ P) :
    Calls Tryz.prog 10 #[v0, keyV f, .int .i64 s] w fun e w' => e = .returned (.tuple #[v0, .int .i64 5]) ∧ Below w.heap.size w w' := by
  have HF : Hid (∀ W, Calls Tryz.prog 25 #[keyV f] W fun e w' => e = .returned (.bool true) ∧ Below W.heap.size W w') := Lib.hid fun W => by
    have := ref_Filter ⟨f.toArray⟩ W (by simpa [ByteArray.size] using hfl)
    rw [hf] at this; exact this
  obtain ⟨at_, hat, _⟩ := plI_some hn
  have HPl : Hid (∀ W, Below w.heap.size w W → Calls Tryz.prog 13 #[v0, keyV f, .int .i64 s] W fun e w' => e = .returned (.int .i64 (at_ : Int)) ∧ Below W.heap.size W w') := Lib.hid fun W hW => by
    have := rf_Place v0 P f s W (h.below hW) hbig
    rw [hat] at this; exact this
  obtain ⟨ka, kc, va, vc, rfl, _⟩ := h
  have hge : (0 : Int) ≤ (at_ : Int) := by omega
  clear hf hn hat
  go_enter Tryz.func10, Tryz.ntmps10
  go_wp2_with fail
  obtain ⟨W2, hW2, B2, b0, b1⟩ := twoR w (.slice ka P.length kc) (.slice va P.length vc)
  rw [hW2]
  clear hW2
  refine (HF.out _).mono ?_
  rintro e w3 ⟨rfl, hB3⟩
  have B3 := Lib.hid (below_step B2 hB3)
  have c0 := b0.below hB3 b0.lt
  have c1 := b1.below hB3 b1.lt
  have k0 := c0.at (o := 0) rfl
  have k1 := c0.at (o := 1) rfl
  clear hB3 b0 b1 B2
  go_wp2_with fail
  refine (HPl.out _ B3.out).mono ?_
  rintro e w4 ⟨rfl, hB4⟩
  have B4 := Lib.hid (below_step B3.out hB4)
  have d0 := c0.below hB4 c0.lt
  have d1 := c1.below hB4 c1.lt
  clear hB4 c0 c1 k0 k1 B3 HF HPl
  have k0 := d0.at (o := 0) rfl
  have k1 := d0.at (o := 1) rfl
  have f1 := d1.frozen 0
  have f2 := d1.frozen 1
  have m0 := d1.at (o := 0) rfl
  have m1 := d1.at (o := 1) rfl
  have HE1 := Lib.hid d1
  clear d0 d1
  go_wp2
  have hr := blk_put13 HE1.out (.slice ka P.length kc) (.slice va P.length vc)
  have r0 := hr.at (o := 0) rfl
  have r1 := hr.at (o := 1) rfl
  refine bodyPost_ret (by simp [results, Tryz.f10, go_sem, r0, r1]; rfl) rfl ?_
  exact ⟨rfl, (B4.out.setCell (p := ⟨w.heap.size + 1, 0, none⟩) (Nat.le_succ _) _).setCell (p := ⟨w.heap.size + 1, 1, none⟩) (Nat.le_succ _) _⟩
set_option maxRecDepth 100000 in
set_option maxHeartbeats 2000000 in
theorem rf_drop_bad {S : Nat → Prop} (v0 : Value) (P : List Pr) (f : Key) (s : Int) (w : World) (h : RfAt S w v0 P) (hfl : f.length ≤ 1048576) (hf : filterZ f = false) :
    Calls Tryz.prog 8 #[v0, keyV f, .int .i64 s] w fun e w' => e = .returned (.tuple #[v0, .int .i64 3]) ∧ Below w.heap.size w w' := by
  have HF : Hid (∀ W, Calls Tryz.prog 25 #[keyV f] W fun e w' => e = .returned (.bool false) ∧ Below W.heap.size W w') := Lib.hid fun W => by
    have := ref_Filter ⟨f.toArray⟩ W (by simpa [ByteArray.size] using hfl)
    rw [hf] at this; exact this
  obtain ⟨ka, kc, va, vc, rfl, _⟩ := h
  clear hf
  go_enter Tryz.func8, Tryz.ntmps8
  go_wp2_with fail
  obtain ⟨W2, hW2, B2, b0, b1⟩ := twoR w (.slice ka P.length kc) (.slice va P.length vc)
  rw [hW2]
  clear hW2
  refine (HF.out _).mono ?_
  rintro e w3 ⟨rfl, hB3⟩
  have B3 := Lib.hid (below_step B2 hB3)
  have c0 := b0.below hB3 b0.lt
  have c1 := b1.below hB3 b1.lt
  have k0 := c0.at (o := 0) rfl
  have k1 := c0.at (o := 1) rfl
  have f1 := c1.frozen 0
  have f2 := c1.frozen 1
  have m0 := c1.at (o := 0) rfl
  have m1 := c1.at (o := 1) rfl
  have HE1 := Lib.hid c1
  clear hB3 b0 b1 B2 c0 c1 HF
  go_wp2
  have hr := blk_put13 HE1.out (.slice ka P.length kc) (.slice va P.length vc)
  have r0 := hr.at (o := 0) rfl
  have r1 := hr.at (o := 1) rfl
  refine bodyPost_ret (by simp [results, Tryz.f8, go_sem, r0, r1]; rfl) rfl ?_
  exact ⟨rfl, (B3.out.setCell (p := ⟨w.heap.size + 1, 0, none⟩) (Nat.le_succ _) _).setCell (p := ⟨w.heap.size + 1, 1, none⟩) (Nat.le_succ _) _⟩
set_option maxRecDepth 100000 in
set_option maxHeartbeats 2000000 in
theorem rf_drop_same {S : Nat → Prop} (v0 : Value) (P : List Pr) (f : Key) (s : Int) (w : World) (h : RfAt S w v0 P) (hbig : P.length ≤ 10000) (hfl : f.length ≤ 1048576) (hf : filterZ f = true) (hn : (f, s) ∉ P) :
    Calls Tryz.prog 8 #[v0, keyV f, .int .i64 s] w fun e w' => e = .returned (.tuple #[v0, .int .i64 6]) ∧ Below w.heap.size w w' := by
  have HF : Hid (∀ W, Calls Tryz.prog 25 #[keyV f] W fun e w' => e = .returned (.bool true) ∧ Below W.heap.size W w') := Lib.hid fun W => by
    have := ref_Filter ⟨f.toArray⟩ W (by simpa [ByteArray.size] using hfl)
    rw [hf] at this; exact this
  have hat := plI_none hn
  have HPl : Hid (∀ W, Below w.heap.size w W → Calls Tryz.prog 13 #[v0, keyV f, .int .i64 s] W fun e w' => e = .returned (.int .i64 (-1)) ∧ Below W.heap.size W w') := Lib.hid fun W hW => by
    have := rf_Place v0 P f s W (h.below hW) hbig
    rw [hat] at this; exact this
  obtain ⟨ka, kc, va, vc, rfl, _⟩ := h
  have hge : ((-1 : Int) < 0) := by decide
  clear hf hn hat
  go_enter Tryz.func8, Tryz.ntmps8
  go_wp2_with fail
  obtain ⟨W2, hW2, B2, b0, b1⟩ := twoR w (.slice ka P.length kc) (.slice va P.length vc)
  rw [hW2]
  clear hW2
  refine (HF.out _).mono ?_
  rintro e w3 ⟨rfl, hB3⟩
  have B3 := Lib.hid (below_step B2 hB3)
  have c0 := b0.below hB3 b0.lt
  have c1 := b1.below hB3 b1.lt
  have k0 := c0.at (o := 0) rfl
  have k1 := c0.at (o := 1) rfl
  clear hB3 b0 b1 B2
  go_wp2_with fail
  refine (HPl.out _ B3.out).mono ?_
  rintro e w4 ⟨rfl, hB4⟩
  have B4 := Lib.hid (below_step B3.out hB4)
  have d0 := c0.below hB4 c0.lt
  have d1 := c1.below hB4 c1.lt
  clear hB4 c0 c1 k0 k1 B3 HF HPl
  have k0 := d0.at (o := 0) rfl
  have k1 := d0.at (o := 1) rfl
  have f1 := d1.frozen 0
  have f2 := d1.frozen 1
  have m0 := d1.at (o := 0) rfl
  have m1 := d1.at (o := 1) rfl
  have HE1 := Lib.hid d1
  clear d0 d1
  go_wp2
  have hr := blk_put13 HE1.out (.slice ka P.length kc) (.slice va P.length vc)
  have r0 := hr.at (o := 0) rfl
  have r1 := hr.at (o := 1) rfl
  refine bodyPost_ret (by simp [results, Tryz.f8, go_sem, r0, r1]; rfl) rfl ?_
  exact ⟨rfl, (B4.out.setCell (p := ⟨w.heap.size + 1, 0, none⟩) (Nat.le_succ _) _).setCell (p := ⟨w.heap.size + 1, 1, none⟩) (Nat.le_succ _) _⟩
/-- The trie that is being made: its box at O, its two rows. -/
structure DSt (w4 wr : World) (O : Nat) (ko vo : Value) (Ks : List Key) (Vs : List Int) : Prop where
  box : Blk 32 wr O [ko, vo]
  keys : wr.ownsRow O 9 1 ko Ks.length (Ks.map keyV)
  vals : wr.ownsRow O 3 1 vo Vs.length (Vs.map numV)
  low : Below O w4 wr
section
variable {w4 wr W : World} {O : Nat} {ko vo : Value} {Ks : List Key} {Vs : List Int}
theorem DSt.below (h : DSt w4 wr O ko vo Ks Vs) (hb : Below wr.heap.size wr W) : DSt w4 W O ko vo Ks Vs :=
  ⟨h.box.below hb h.box.lt, own_below h.keys hb, own_below h.vals hb, h.low.trans (hb.mono (Nat.le_of_lt h.box.lt))⟩
theorem one_slice13 (W : World) (u : Value) (t : TypeId) : SliceK (W.alloc (.cells #[u] t)) 1 (.slice (some ⟨W.heap.size, 0, none⟩) 1 1) 1 [u] := by
  have hb : Blk t (W.alloc (.cells #[u] t)) W.heap.size [u] := Blk.new
  refine ⟨rfl, .inr ⟨W.heap.size, 0, 1, rfl, Nat.le_refl _, hb.lt, fun j x hj => ?_⟩⟩
  rw [Nat.zero_add]
  exact (hb.cell j).trans hj
theorem DSt.key (h : DSt w4 wr O ko vo Ks Vs) (q : Key) (hl : Ks.length ≤ 100000) : ∃ a n c w1, (Builtin.append_ #[29, 29] 29 #[ko, .slice (some ⟨wr.heap.size, 0, none⟩) 1 1]).run Tryz.prog (wr.alloc (.cells #[keyV q] 9)) = .ok (.slice a n c) w1 ∧
    Blk 32 w1 O [ko, vo] ∧ Below O w4 w1 ∧ DSt w4 (w1.setCell ⟨O, 0, none⟩ (.slice a n c)) O (.slice a n c) vo (Ks ++ [q]) Vs := by
  have h1 := h.below (new_below wr (.cells #[keyV q] 9))
  obtain ⟨v', w1, hrun, hown, hg⟩ := run_app_key _ O 29 ko _ Ks [q] h1.keys (one_slice13 wr (keyV q) 9) (by simp; omega) (Nat.le_of_lt h1.box.lt)
  obtain ⟨a, c, rfl⟩ := own_form hown
  have hb1 : Blk 32 w1 O [ko, vo] := (hg.block O h1.box.lt (block_not_row h1.box (by decide) h1.keys)).trans h1.box
  have hl1 : Below O w4 w1 := h1.low.grown hg (Nat.le_of_lt h1.box.lt) (fun k hk => own_base3 h1.keys k hk)
  have hv1 : w1.ownsRow O 3 1 vo Vs.length (Vs.map numV) := World.ownsRow.kept h1.vals hg (rows_apart (by decide) h1.keys h1.vals)
  refine ⟨a, _, c, w1, hrun, hb1, hl1, by simpa using hb1.set 0 (.slice a _ c), ?_, ?_, hl1.setCell (p := ⟨O, 0, none⟩) (Nat.le_refl _) _⟩
  · exact World.ownsRow.kept hown (grown_set w1 O 0 _) (.inr (block_not_row hb1 (by decide) hown).symm)
  · exact World.ownsRow.kept hv1 (grown_set w1 O 0 _) (.inr (block_not_row hb1 (by decide) hv1).symm)
theorem DSt.val (h : DSt w4 wr O ko vo Ks Vs) (q : Int) (hl : Vs.length ≤ 100000) : ∃ a n c w1, (Builtin.append_ #[30, 30] 30 #[vo, .slice (some ⟨wr.heap.size, 0, none⟩) 1 1]).run Tryz.prog (wr.alloc (.cells #[.int .i64 q] 3)) = .ok (.slice a n c) w1 ∧
    Blk 32 w1 O [ko, vo] ∧ Below O w4 w1 ∧ DSt w4 (w1.setCell ⟨O, 1, none⟩ (.slice a n c)) O ko (.slice a n c) Ks (Vs ++ [q]) := by
  have h1 := h.below (new_below wr (.cells #[numV q] 3))
  obtain ⟨v', w1, hrun, hown, hg⟩ := run_app_num _ O 30 vo _ Vs [q] h1.vals (one_slice13 wr (numV q) 3) (by simp; omega) (Nat.le_of_lt h1.box.lt)
  obtain ⟨a, c, rfl⟩ := own_form hown
  have hb1 : Blk 32 w1 O [ko, vo] := (hg.block O h1.box.lt (block_not_row h1.box (by decide) h1.vals)).trans h1.box
  have hl1 : Below O w4 w1 := h1.low.grown hg (Nat.le_of_lt h1.box.lt) (fun k hk => own_base3 h1.vals k hk)
  have hk1 : w1.ownsRow O 9 1 ko Ks.length (Ks.map keyV) := World.ownsRow.kept h1.keys hg (rows_apart (by decide) h1.vals h1.keys)
  refine ⟨a, _, c, w1, hrun, hb1, hl1, by simpa using hb1.set 1 (.slice a _ c), ?_, ?_, hl1.setCell (p := ⟨O, 1, none⟩) (Nat.le_refl _) _⟩
  · exact World.ownsRow.kept hk1 (grown_set w1 O 1 _) (.inr (block_not_row hb1 (by decide) hk1).symm)
  · exact World.ownsRow.kept hown (grown_set w1 O 1 _) (.inr (block_not_row hb1 (by decide) hown).symm)
end
theorem woP_snoc_ne {P : List Pr} {p x : Pr} (h : p ≠ x) : woP (P ++ [p]) x = woP P x ++ [p] := by simp [woP, h]
theorem woP_snoc_eq {P : List Pr} {x : Pr} : woP (P ++ [x]) x = woP P x := by simp [woP]
theorem take_snoc13 {α : Type} {P : List α} {k : Nat} {p : α} (h : P[k]? = some p) : P.take (k + 1) = P.take k ++ [p] := by
  obtain ⟨hk, rfl⟩ := List.getElem?_eq_some_iff.1 h
  exact List.take_succ_eq_append_getElem hk
theorem nodup_at {P : List Pr} (hn : P.Nodup) {i j : Nat} {x : Pr} (h1 : P[i]? = some x) (h2 : P[j]? = some x) : i = j := by
  obtain ⟨hi, e1⟩ := List.getElem?_eq_some_iff.1 h1
  obtain ⟨hj, e2⟩ := List.getElem?_eq_some_iff.1 h2
  rcases Nat.lt_trichotomy i j with h | h | h
  · exact absurd (e1.trans e2.symm) (List.pairwise_iff_getElem.1 hn i j hi hj h)
  · exact h
  · exact absurd (e2.trans e1.symm) (List.pairwise_iff_getElem.1 hn j i hj hi h)

set_option maxRecDepth 100000 in
set_option maxHeartbeats 16000000 in
theorem rf_drop_old {S : Nat → Prop} (v0 : Value) (P : List Pr) (f : Key) (s : Int) (w : World) (hS : ∀ k, w.heap.size ≤ k → ¬ S k) (h : RfAt S w v0 P) (hbig : P.length ≤ 10000) (hnd : P.Nodup) (hfl : f.length ≤ 1048576) (hf : filterZ f = true) (hn : (f, s) ∈ P) :
    Calls Tryz.prog 8 #[v0, keyV f, .int .i64 s] w fun e w' => ∃ r, e = .returned (.tuple #[r, .int .i64 0]) ∧ RfAt S w' r (woP P (f, s)) ∧ Below w.heap.size w w' := by
  have HF : Hid (∀ W, Calls Tryz.prog 25 #[keyV f] W fun e w' => e = .returned (.bool true) ∧ Below W.heap.size W w') := Lib.hid fun W => by
    have := ref_Filter ⟨f.toArray⟩ W (by simpa [ByteArray.size] using hfl)
    rw [hf] at this; exact this
  obtain ⟨at_, hat, hatx⟩ := plI_some hn
  have HPl : Hid (∀ W, Below w.heap.size w W → Calls Tryz.prog 13 #[v0, keyV f, .int .i64 s] W fun e w' => e = .returned (.int .i64 (at_ : Int)) ∧ Below W.heap.size W w') := Lib.hid fun W hW => by
    have := rf_Place v0 P f s W (h.below hW) hbig
    rw [hat] at this; exact this
  obtain ⟨ka, kc, va, vc, rfl, h1, h2, _, _⟩ := h
  have K1 := Lib.hid (fun i p (hp : P[i]? = some p) => slice_at (f := fun p : Pr => keyV p.1) h1 i p hp)
  have V1 := Lib.hid (fun i p (hp : P[i]? = some p) => slice_at (f := fun p : Pr => numV p.2) h2 i p hp)
  have HSS := Lib.hid hS
  have HND := Lib.hid hnd
  have HAT := Lib.hid hatx
  have hatl : at_ < P.length := (List.getElem?_eq_some_iff.1 hatx).1
  clear h1 h2 hf hS hn hnd hat hatx
  go_enter Tryz.func8, Tryz.ntmps8
  go_wp2_with fail
  obtain ⟨W2, hW2, B2, b0, b1⟩ := twoR w (.slice ka P.length kc) (.slice va P.length vc)
  rw [hW2]
  clear hW2
  refine (HF.out _).mono ?_
  rintro e w3 ⟨rfl, hB3⟩
  have B3 := Lib.hid (below_step B2 hB3)
  have c0 := b0.below hB3 b0.lt
  have c1 := b1.below hB3 b1.lt
  have k0 := c0.at (o := 0) rfl
  have k1 := c0.at (o := 1) rfl
  clear hB3 b0 b1 B2
  go_wp2_with fail
  refine (HPl.out _ B3.out).mono ?_
  rintro e w4 ⟨rfl, hB4⟩
  have B4 := Lib.hid (below_step B3.out hB4)
  have hd0 := c0.below hB4 c0.lt
  have hd1 := c1.below hB4 c1.lt
  have HD := Lib.hid (And.intro hd0 hd1)
  have hneg : ¬ ((at_ : Int) < 0) := by omega
  clear hB4 c0 c1 k0 k1 B3 HF HPl
  go_wp2_with fail
  have hO1 : w.heap.size + 1 < w4.heap.size := hd1.lt
  have ST0 : Hid (DSt w4 (w4.alloc (.cells #[.slice none 0 0, .slice none 0 0] 32)) w4.heap.size (.slice none 0 0) (.slice none 0 0) [] []) := Lib.hid ⟨Blk.new, World.ownsRow_nil _ _ _ _, World.ownsRow_nil _ _ _ _, new_below _ _⟩
  obtain ⟨O, hO⟩ : ∃ O, w4.heap.size = O := ⟨_, rfl⟩
  generalize w4.alloc (.cells #[.slice none 0 0, .slice none 0 0] 32) = w5 at ST0 ⊢
  have HT : Hid (∀ W, Below O w4 W → W.cell? ⟨w.heap.size, 0, none⟩ = some (.slice ka P.length kc) ∧ W.cell? ⟨w.heap.size, 1, none⟩ = some (.slice va P.length vc)) := Lib.hid fun W hW => ⟨(HD.out.1.below hW (by omega)).at (o := 0) rfl, (HD.out.1.below hW (by omega)).at (o := 1) rfl⟩
  have HK : Hid (∀ i p, P[i]? = some p → ∃ b off, ka = some ⟨b, off, none⟩ ∧ ∀ W, Below O w4 W → W.cell? ⟨b, off + i, none⟩ = some (keyV p.1)) := Lib.hid fun i p hp => by
    obtain ⟨b, off, e, hb, hc⟩ := K1.out i p hp
    exact ⟨b, off, e, fun W hW => (hW.cell (p := ⟨b, off + i, none⟩) (by have := B4.out.size; show b < O; omega)).trans ((B4.out.cell (p := ⟨b, off + i, none⟩) hb).trans hc)⟩
  have HV : Hid (∀ i p, P[i]? = some p → ∃ b off, va = some ⟨b, off, none⟩ ∧ ∀ W, Below O w4 W → W.cell? ⟨b, off + i, none⟩ = some (numV p.2)) := Lib.hid fun i p hp => by
    obtain ⟨b, off, e, hb, hc⟩ := V1.out i p hp
    exact ⟨b, off, e, fun W hW => (hW.cell (p := ⟨b, off + i, none⟩) (by have := B4.out.size; show b < O; omega)).trans ((B4.out.cell (p := ⟨b, off + i, none⟩) hb).trans hc)⟩
  rw [hO] at ST0 ⊢
  clear hd0 hd1 K1 V1
  go_loopg [10] P.length (fun g i wr => ∃ (k : Nat) (ko vo : Value) (M : List Pr), k + g = P.length ∧ i = .int .i64 k ∧ Hid (M = woP (P.take k) (f, s)) ∧ Hid (DSt w4 wr O ko vo (M.map Prod.fst) (M.map Prod.snd)))
  case atStart => exact ⟨0, _, _, [], by omega, rfl, Lib.hid (by simp [woP]), ST0⟩
  case round =>
    obtain ⟨k, ko, vo, M, hk, rfl, HM, ST⟩ := hrel
    clear ST0
    have t0 := (HT.out wr ST.out.low).1
    by_cases hlt : k < P.length
    · obtain ⟨⟨pk, ps⟩, hp⟩ : ∃ p, P[k]? = some p := ⟨_, List.getElem?_eq_getElem hlt⟩
      have hlt2 : (k : Int) < (P.length : Int) := by omega
      by_cases hka : k = at_
      · have HM2 : Hid (M = woP (P.take (k + 1)) (f, s)) := Lib.hid (by rw [take_snoc13 (show P[k]? = some (f, s) by rw [hka]; exact HAT.out), woP_snoc_eq]; exact HM.out)
        have hka2 : ((k : Int) != (at_ : Int)) = false := by rw [hka]; simp
        clear hp
        go_wp2
        go_roundg (gk - 1)
        case measure => omega
        case rel => exact ⟨k + 1, _, _, M, by omega, by go_num, HM2, ST⟩
      · have hka2 : ((k : Int) != (at_ : Int)) = true := by simp; omega
        have hne : (pk, ps) ≠ (f, s) := fun e => hka (nodup_at HND.out hp (e ▸ HAT.out))
        have HM2 : Hid (M ++ [(pk, ps)] = woP (P.take (k + 1)) (f, s)) := Lib.hid (by rw [take_snoc13 hp, woP_snoc_ne hne, ← HM.out])
        obtain ⟨b, off, rfl, HKc⟩ := HK.out k _ hp
        obtain ⟨b', off', rfl, HVc⟩ := HV.out k _ hp
        have hMl : M.length ≤ 10000 := by rw [HM.out]; exact Nat.le_trans (List.length_filter_le _ _) (by rw [List.length_take]; omega)
        have HKC := Lib.hid HKc
        have HVC := Lib.hid HVc
        dsimp only at HKC HVC
        clear hp hne HKc HVc t0
        have t0 := (HT.out wr ST.out.low).1
        go_upto_region 11 with fail
        have hst : DSt w4 wr.drew O ko vo (M.map Prod.fst) (M.map Prod.snd) := ST.out.below (Below.refl _ _).drew
        clear ST t0 HK HV
        refine wp_region_noPanic ?_
        refine wp_region_held_drew (S := (fun w' => w'.cell? ⟨w.heap.size, 0, none⟩ = some (.slice (some ⟨b, off, none⟩) P.length kc) ∧ w'.cell? ⟨b, off + k, none⟩ = some (keyV pk))) (by kernel_rfl) ?_ (fun hHeld => ?_)
        · exact ⟨(HT.out _ hst.low).1, HKC.out _ hst.low⟩
        generalize wr.drew = wD at *
        refine wpAnyH_take (i := 0) (oi := ⟨some 33, _, _, _, _, _⟩) (v := ?_) rfl (by kernel_rfl) (by kernel_rfl) (by kernel_rfl) (fun _ _ _ h => h) (Or.inl ⟨by rfl, ?_⟩) (by assumption) ?_
        rotate_left
        · (intro w hSw; (try dsimp only at hSw); go_simp; try with_reducible rfl)
        try simp only [Act.put, List.setIfInBounds_toArray, List.set_cons_zero, List.set_cons_succ]
        refine wpAnyH_take (i := 2) (oi := ⟨some 35, _, _, _, _, _⟩) (v := ?_) rfl (by kernel_rfl) (by kernel_rfl) (by kernel_rfl) (fun _ _ _ h => h) (Or.inl ⟨by rfl, ?_⟩) (by assumption) ?_
        rotate_left
        · (intro w hSw; (try dsimp only at hSw); go_simp; try with_reducible rfl)
        try simp only [Act.put, List.setIfInBounds_toArray, List.set_cons_zero, List.set_cons_succ]
        refine wpAnyH_take (i := 3) (oi := ⟨some 36, _, _, _, _, _⟩) (v := ?_) rfl (by kernel_rfl) (by kernel_rfl) (by kernel_rfl) (fun _ _ _ h => h) (Or.inl ⟨by rfl, ?_⟩) (by assumption) ?_
        rotate_left
        · (intro w hSw; (try dsimp only at hSw); go_simp; try with_reducible rfl)
        try simp only [Act.put, List.setIfInBounds_toArray, List.set_cons_zero, List.set_cons_succ]
        refine wpAnyH_take (i := 4) (oi := ⟨some 37, _, _, _, _, _⟩) (v := ?_) rfl (by kernel_rfl) (by kernel_rfl) (by kernel_rfl) (fun _ _ _ h => h) (Or.inl ⟨by rfl, ?_⟩) (by assumption) ?_
        rotate_left
        · (intro w hSw; (try dsimp only at hSw); go_simp; try with_reducible rfl)
        try simp only [Act.put, List.setIfInBounds_toArray, List.set_cons_zero, List.set_cons_succ]
        refine wpAnyH_take (i := 5) (oi := ⟨some 38, _, _, _, _, _⟩) (v := ?_) rfl (by kernel_rfl) (by kernel_rfl) (by kernel_rfl) (fun _ _ _ h => h) (Or.inl ⟨by rfl, ?_⟩) (by assumption) ?_
        rotate_left
        · (intro w hSw; (try dsimp only at hSw); go_simp; try with_reducible rfl)
        try simp only [Act.put, List.setIfInBounds_toArray, List.set_cons_zero, List.set_cons_succ]
        refine wpAnyH_take (i := 6) (oi := ⟨some 39, _, _, _, _, _⟩) (v := ?_) rfl (by kernel_rfl) (by kernel_rfl) (by kernel_rfl) (fun _ _ _ h => h) (Or.inl ⟨by rfl, ?_⟩) (by assumption) ?_
        rotate_left
        · (intro w hSw; (try dsimp only at hSw); go_simp; try with_reducible rfl)
        try simp only [Act.put, List.setIfInBounds_toArray, List.set_cons_zero, List.set_cons_succ]
        refine wpAnyH_ready (rs := [1, 7]) (by kernel_rfl) (by simp) ?_
        refine AllReadyH.cons (o := ⟨some 34, _, _, _, _, _⟩) rfl (fun K hK => ?_) (AllReadyH.cons (o := ⟨some 40, _, _, _, _, _⟩) rfl (fun K hK => ?_) AllReadyH.nil)
        · have cX := hst.box.at (o := 0) rfl
          go_simp
          clear cX
          refine hK.out _ _ ?_ (fun hHeldX => ?_)
          · exact ⟨(HT.out _ hst.low).1, HKC.out _ hst.low⟩
          clear hK K hHeld
          rename _ => hHeld
          try simp only [Act.put, List.setIfInBounds_toArray, List.set_cons_zero, List.set_cons_succ]
          refine wpAnyH_ready (rs := [7]) (by kernel_rfl) (by simp) ?_
          refine AllReadyH.cons (o := ⟨some 40, _, _, _, _, _⟩) rfl (fun K hK => ?_) AllReadyH.nil
          go_simp
          have hstA := hst
          obtain ⟨a9, n9, c9, w9, hrun, hb9, hl9, h9⟩ := hstA.key pk (by rw [List.length_map]; omega)
          replace hst := hst.below (new_below _ (.cells #[keyV pk] 9))
          refine hK.out _ _ ?_ (fun hHeldX => ?_)
          · exact ⟨(HT.out _ hst.low).1, HKC.out _ hst.low⟩
          clear hK K hHeld
          rename _ => hHeld
          try simp only [Act.put, List.setIfInBounds_toArray, List.set_cons_zero, List.set_cons_succ]
          refine wpAnyH_ready (rs := [8]) (by kernel_rfl) (by simp) ?_
          refine AllReadyH.cons (o := ⟨some 41, _, _, _, _, _⟩) rfl (fun K hK => ?_) AllReadyH.nil
          refine step_append_run rfl (.tmp 34) (.tmp 40) 29 rfl _ _ _ _ rfl rfl hrun ?_
          clear hrun hst hstA
          refine hK.out _ _ ?_ (fun hHeldX => ?_)
          · exact ⟨(HT.out _ hl9).1, HKC.out _ hl9⟩
          clear hK K hHeld
          rename _ => hHeld
          try simp only [Act.put, List.setIfInBounds_toArray, List.set_cons_zero, List.set_cons_succ]
          refine wpAnyH_take (i := 9) (oi := ⟨some 42, _, _, _, _, _⟩) (v := ?_) rfl (by kernel_rfl) (by kernel_rfl) (by kernel_rfl) (fun _ _ _ h => h) (Or.inl ⟨by rfl, ?_⟩) (by assumption) ?_
          rotate_left
          · (intro w hSw; (try dsimp only at hSw); go_simp; try with_reducible rfl)
          try simp only [Act.put, List.setIfInBounds_toArray, List.set_cons_zero, List.set_cons_succ]
          refine wpAnyH_ready (rs := [10]) (by kernel_rfl) (by simp) ?_
          refine AllReadyH.cons (o := ⟨none, _, _, _, _, _⟩) rfl (fun K hK => ?_) AllReadyH.nil
          have cX := hb9.at (o := 0) rfl
          have fX := hb9.frozen 0
          go_simp
          clear cX fX
          refine hK.out _ _ ?_ (fun hHeldX => ?_)
          · exact ⟨(HT.out _ h9.low).1, HKC.out _ h9.low⟩
          clear hK K hHeld
          rename _ => hHeld
          try simp only [Act.put, List.setIfInBounds_toArray, List.set_cons_zero, List.set_cons_succ]
          refine wpAnyH_done (by kernel_rfl) ?_ _
          refine NoPanic.normal ?_
          have HE1 := Lib.hid h9
          clear h9 hb9 hl9 hHeld
          go_upto_region 12 with fail
          generalize World.setCell _ _ _ = W11 at *
          generalize Value.slice a9 n9 c9 = kn at *
          have hst : DSt w4 W11.drew O kn vo (M.map Prod.fst ++ [pk]) (M.map Prod.snd) := HE1.out.below (Below.refl _ _).drew
          clear HE1
          refine wp_region_noPanic ?_
          refine wp_region_held_drew (S := (fun w' => w'.cell? ⟨w.heap.size, 1, none⟩ = some (.slice (some ⟨b', off', none⟩) P.length vc) ∧ w'.cell? ⟨b', off' + k, none⟩ = some (.int .i64 ps))) (by kernel_rfl) ?_ (fun hHeld => ?_)
          · exact ⟨(HT.out _ hst.low).2, HVC.out _ hst.low⟩
          generalize W11.drew = wD at *
          refine wpAnyH_take (i := 0) (oi := ⟨some 43, _, _, _, _, _⟩) (v := ?_) rfl (by kernel_rfl) (by kernel_rfl) (by kernel_rfl) (fun _ _ _ h => h) (Or.inl ⟨by rfl, ?_⟩) (by assumption) ?_
          rotate_left
          · (intro w hSw; (try dsimp only at hSw); go_simp; try with_reducible rfl)
          try simp only [Act.put, List.setIfInBounds_toArray, List.set_cons_zero, List.set_cons_succ]
          refine wpAnyH_take (i := 2) (oi := ⟨some 45, _, _, _, _, _⟩) (v := ?_) rfl (by kernel_rfl) (by kernel_rfl) (by kernel_rfl) (fun _ _ _ h => h) (Or.inl ⟨by rfl, ?_⟩) (by assumption) ?_
          rotate_left
          · (intro w hSw; (try dsimp only at hSw); go_simp; try with_reducible rfl)
          try simp only [Act.put, List.setIfInBounds_toArray, List.set_cons_zero, List.set_cons_succ]
          refine wpAnyH_take (i := 3) (oi := ⟨some 46, _, _, _, _, _⟩) (v := ?_) rfl (by kernel_rfl) (by kernel_rfl) (by kernel_rfl) (fun _ _ _ h => h) (Or.inl ⟨by rfl, ?_⟩) (by assumption) ?_
          rotate_left
          · (intro w hSw; (try dsimp only at hSw); go_simp; try with_reducible rfl)
          try simp only [Act.put, List.setIfInBounds_toArray, List.set_cons_zero, List.set_cons_succ]
          refine wpAnyH_take (i := 4) (oi := ⟨some 47, _, _, _, _, _⟩) (v := ?_) rfl (by kernel_rfl) (by kernel_rfl) (by kernel_rfl) (fun _ _ _ h => h) (Or.inl ⟨by rfl, ?_⟩) (by assumption) ?_
          rotate_left
          · (intro w hSw; (try dsimp only at hSw); go_simp; try with_reducible rfl)
          try simp only [Act.put, List.setIfInBounds_toArray, List.set_cons_zero, List.set_cons_succ]
          refine wpAnyH_take (i := 5) (oi := ⟨some 48, _, _, _, _, _⟩) (v := ?_) rfl (by kernel_rfl) (by kernel_rfl) (by kernel_rfl) (fun _ _ _ h => h) (Or.inl ⟨by rfl, ?_⟩) (by assumption) ?_
          rotate_left
          · (intro w hSw; (try dsimp only at hSw); go_simp; try with_reducible rfl)
          try simp only [Act.put, List.setIfInBounds_toArray, List.set_cons_zero, List.set_cons_succ]
          refine wpAnyH_take (i := 6) (oi := ⟨some 49, _, _, _, _, _⟩) (v := ?_) rfl (by kernel_rfl) (by kernel_rfl) (by kernel_rfl) (fun _ _ _ h => h) (Or.inl ⟨by rfl, ?_⟩) (by assumption) ?_
          rotate_left
          · (intro w hSw; (try dsimp only at hSw); go_simp; try with_reducible rfl)
          try simp only [Act.put, List.setIfInBounds_toArray, List.set_cons_zero, List.set_cons_succ]
          refine wpAnyH_ready (rs := [1, 7]) (by kernel_rfl) (by simp) ?_
          refine AllReadyH.cons (o := ⟨some 44, _, _, _, _, _⟩) rfl (fun K hK => ?_) (AllReadyH.cons (o := ⟨some 50, _, _, _, _, _⟩) rfl (fun K hK => ?_) AllReadyH.nil)
          · have cX := hst.box.at (o := 1) rfl
            go_simp
            clear cX
            refine hK.out _ _ ?_ (fun hHeldX => ?_)
            · exact ⟨(HT.out _ hst.low).2, HVC.out _ hst.low⟩
            clear hK K hHeld
            rename _ => hHeld
            try simp only [Act.put, List.setIfInBounds_toArray, List.set_cons_zero, List.set_cons_succ]
            refine wpAnyH_ready (rs := [7]) (by kernel_rfl) (by simp) ?_
            refine AllReadyH.cons (o := ⟨some 50, _, _, _, _, _⟩) rfl (fun K hK => ?_) AllReadyH.nil
            go_simp
            have hstA := hst
            obtain ⟨a9, n9, c9, w9, hrun, hb9, hl9, h9⟩ := hstA.val ps (by rw [List.length_map]; omega)
            replace hst := hst.below (new_below _ (.cells #[.int .i64 ps] 3))
            refine hK.out _ _ ?_ (fun hHeldX => ?_)
            · exact ⟨(HT.out _ hst.low).2, HVC.out _ hst.low⟩
            clear hK K hHeld
            rename _ => hHeld
            try simp only [Act.put, List.setIfInBounds_toArray, List.set_cons_zero, List.set_cons_succ]
            refine wpAnyH_ready (rs := [8]) (by kernel_rfl) (by simp) ?_
            refine AllReadyH.cons (o := ⟨some 51, _, _, _, _, _⟩) rfl (fun K hK => ?_) AllReadyH.nil
            refine step_append_run rfl (.tmp 44) (.tmp 50) 30 rfl _ _ _ _ rfl rfl hrun ?_
            clear hrun hst hstA
            refine hK.out _ _ ?_ (fun hHeldX => ?_)
            · exact ⟨(HT.out _ hl9).2, HVC.out _ hl9⟩
            clear hK K hHeld
            rename _ => hHeld
            try simp only [Act.put, List.setIfInBounds_toArray, List.set_cons_zero, List.set_cons_succ]
            refine wpAnyH_take (i := 9) (oi := ⟨some 52, _, _, _, _, _⟩) (v := ?_) rfl (by kernel_rfl) (by kernel_rfl) (by kernel_rfl) (fun _ _ _ h => h) (Or.inl ⟨by rfl, ?_⟩) (by assumption) ?_
            rotate_left
            · (intro w hSw; (try dsimp only at hSw); go_simp; try with_reducible rfl)
            try simp only [Act.put, List.setIfInBounds_toArray, List.set_cons_zero, List.set_cons_succ]
            refine wpAnyH_ready (rs := [10]) (by kernel_rfl) (by simp) ?_
            refine AllReadyH.cons (o := ⟨none, _, _, _, _, _⟩) rfl (fun K hK => ?_) AllReadyH.nil
            have cX := hb9.at (o := 1) rfl
            have fX := hb9.frozen 1
            go_simp
            clear cX fX
            refine hK.out _ _ ?_ (fun hHeldX => ?_)
            · exact ⟨(HT.out _ h9.low).2, HVC.out _ h9.low⟩
            clear hK K hHeld
            rename _ => hHeld
            try simp only [Act.put, List.setIfInBounds_toArray, List.set_cons_zero, List.set_cons_succ]
            refine wpAnyH_done (by kernel_rfl) ?_ _
            refine NoPanic.normal ?_
            have HE := Lib.hid h9
            clear h9 hb9 hl9 hHeld
            go_wp2_with fail
            go_roundg (gk - 1)
            case measure => omega
            case rel => exact ⟨k + 1, _, _, M ++ [(pk, ps)], by omega, by go_num, HM2, by rw [List.map_append, List.map_append]; exact HE⟩
          · go_simp
            have hstA := hst
            obtain ⟨a9, n9, c9, w9, hrun, hb9, hl9, h9⟩ := hstA.val ps (by rw [List.length_map]; omega)
            replace hst := hst.below (new_below _ (.cells #[.int .i64 ps] 3))
            refine hK.out _ _ ?_ (fun hHeldX => ?_)
            · exact ⟨(HT.out _ hst.low).2, HVC.out _ hst.low⟩
            clear hK K hHeld
            rename _ => hHeld
            try simp only [Act.put, List.setIfInBounds_toArray, List.set_cons_zero, List.set_cons_succ]
            refine wpAnyH_ready (rs := [1]) (by kernel_rfl) (by simp) ?_
            refine AllReadyH.cons (o := ⟨some 44, _, _, _, _, _⟩) rfl (fun K hK => ?_) AllReadyH.nil
            have cX := hst.box.at (o := 1) rfl
            go_simp
            clear cX
            refine hK.out _ _ ?_ (fun hHeldX => ?_)
            · exact ⟨(HT.out _ hst.low).2, HVC.out _ hst.low⟩
            clear hK K hHeld
            rename _ => hHeld
            try simp only [Act.put, List.setIfInBounds_toArray, List.set_cons_zero, List.set_cons_succ]
            refine wpAnyH_ready (rs := [8]) (by kernel_rfl) (by simp) ?_
            refine AllReadyH.cons (o := ⟨some 51, _, _, _, _, _⟩) rfl (fun K hK => ?_) AllReadyH.nil
            refine step_append_run rfl (.tmp 44) (.tmp 50) 30 rfl _ _ _ _ rfl rfl hrun ?_
            clear hrun hst hstA
            refine hK.out _ _ ?_ (fun hHeldX => ?_)
            · exact ⟨(HT.out _ hl9).2, HVC.out _ hl9⟩
            clear hK K hHeld
            rename _ => hHeld
            try simp only [Act.put, List.setIfInBounds_toArray, List.set_cons_zero, List.set_cons_succ]
            refine wpAnyH_take (i := 9) (oi := ⟨some 52, _, _, _, _, _⟩) (v := ?_) rfl (by kernel_rfl) (by kernel_rfl) (by kernel_rfl) (fun _ _ _ h => h) (Or.inl ⟨by rfl, ?_⟩) (by assumption) ?_
            rotate_left
            · (intro w hSw; (try dsimp only at hSw); go_simp; try with_reducible rfl)
            try simp only [Act.put, List.setIfInBounds_toArray, List.set_cons_zero, List.set_cons_succ]
            refine wpAnyH_ready (rs := [10]) (by kernel_rfl) (by simp) ?_
            refine AllReadyH.cons (o := ⟨none, _, _, _, _, _⟩) rfl (fun K hK => ?_) AllReadyH.nil
            have cX := hb9.at (o := 1) rfl
            have fX := hb9.frozen 1
            go_simp
            clear cX fX
            refine hK.out _ _ ?_ (fun hHeldX => ?_)
            · exact ⟨(HT.out _ h9.low).2, HVC.out _ h9.low⟩
            clear hK K hHeld
            rename _ => hHeld
            try simp only [Act.put, List.setIfInBounds_toArray, List.set_cons_zero, List.set_cons_succ]
            refine wpAnyH_done (by kernel_rfl) ?_ _
            refine NoPanic.normal ?_
            have HE := Lib.hid h9
            clear h9 hb9 hl9 hHeld
            go_wp2_with fail
            go_roundg (gk - 1)
            case measure => omega
            case rel => exact ⟨k + 1, _, _, M ++ [(pk, ps)], by omega, by go_num, HM2, by rw [List.map_append, List.map_append]; exact HE⟩
        · go_simp
          have hstA := hst
          obtain ⟨a9, n9, c9, w9, hrun, hb9, hl9, h9⟩ := hstA.key pk (by rw [List.length_map]; omega)
          replace hst := hst.below (new_below _ (.cells #[keyV pk] 9))
          refine hK.out _ _ ?_ (fun hHeldX => ?_)
          · exact ⟨(HT.out _ hst.low).1, HKC.out _ hst.low⟩
          clear hK K hHeld
          rename _ => hHeld
          try simp only [Act.put, List.setIfInBounds_toArray, List.set_cons_zero, List.set_cons_succ]
          refine wpAnyH_ready (rs := [1]) (by kernel_rfl) (by simp) ?_
          refine AllReadyH.cons (o := ⟨some 34, _, _, _, _, _⟩) rfl (fun K hK => ?_) AllReadyH.nil
          have cX := hst.box.at (o := 0) rfl
          go_simp
          clear cX
          refine hK.out _ _ ?_ (fun hHeldX => ?_)
          · exact ⟨(HT.out _ hst.low).1, HKC.out _ hst.low⟩
          clear hK K hHeld
          rename _ => hHeld
          try simp only [Act.put, List.setIfInBounds_toArray, List.set_cons_zero, List.set_cons_succ]
          refine wpAnyH_ready (rs := [8]) (by kernel_rfl) (by simp) ?_
          refine AllReadyH.cons (o := ⟨some 41, _, _, _, _, _⟩) rfl (fun K hK => ?_) AllReadyH.nil
          refine step_append_run rfl (.tmp 34) (.tmp 40) 29 rfl _ _ _ _ rfl rfl hrun ?_
          clear hrun hst hstA
          refine hK.out _ _ ?_ (fun hHeldX => ?_)
          · exact ⟨(HT.out _ hl9).1, HKC.out _ hl9⟩
          clear hK K hHeld
          rename _ => hHeld
          try simp only [Act.put, List.setIfInBounds_toArray, List.set_cons_zero, List.set_cons_succ]
          refine wpAnyH_take (i := 9) (oi := ⟨some 42, _, _, _, _, _⟩) (v := ?_) rfl (by kernel_rfl) (by kernel_rfl) (by kernel_rfl) (fun _ _ _ h => h) (Or.inl ⟨by rfl, ?_⟩) (by assumption) ?_
          rotate_left
          · (intro w hSw; (try dsimp only at hSw); go_simp; try with_reducible rfl)
          try simp only [Act.put, List.setIfInBounds_toArray, List.set_cons_zero, List.set_cons_succ]
          refine wpAnyH_ready (rs := [10]) (by kernel_rfl) (by simp) ?_
          refine AllReadyH.cons (o := ⟨none, _, _, _, _, _⟩) rfl (fun K hK => ?_) AllReadyH.nil
          have cX := hb9.at (o := 0) rfl
          have fX := hb9.frozen 0
          go_simp
          clear cX fX
          refine hK.out _ _ ?_ (fun hHeldX => ?_)
          · exact ⟨(HT.out _ h9.low).1, HKC.out _ h9.low⟩
          clear hK K hHeld
          rename _ => hHeld
          try simp only [Act.put, List.setIfInBounds_toArray, List.set_cons_zero, List.set_cons_succ]
          refine wpAnyH_done (by kernel_rfl) ?_ _
          refine NoPanic.normal ?_
          have HE1 := Lib.hid h9
          clear h9 hb9 hl9 hHeld
          go_upto_region 12 with fail
          generalize World.setCell _ _ _ = W11 at *
          generalize Value.slice a9 n9 c9 = kn at *
          have hst : DSt w4 W11.drew O kn vo (M.map Prod.fst ++ [pk]) (M.map Prod.snd) := HE1.out.below (Below.refl _ _).drew
          clear HE1
          refine wp_region_noPanic ?_
          refine wp_region_held_drew (S := (fun w' => w'.cell? ⟨w.heap.size, 1, none⟩ = some (.slice (some ⟨b', off', none⟩) P.length vc) ∧ w'.cell? ⟨b', off' + k, none⟩ = some (.int .i64 ps))) (by kernel_rfl) ?_ (fun hHeld => ?_)
          · exact ⟨(HT.out _ hst.low).2, HVC.out _ hst.low⟩
          generalize W11.drew = wD at *
          refine wpAnyH_take (i := 0) (oi := ⟨some 43, _, _, _, _, _⟩) (v := ?_) rfl (by kernel_rfl) (by kernel_rfl) (by kernel_rfl) (fun _ _ _ h => h) (Or.inl ⟨by rfl, ?_⟩) (by assumption) ?_
          rotate_left
          · (intro w hSw; (try dsimp only at hSw); go_simp; try with_reducible rfl)
          try simp only [Act.put, List.setIfInBounds_toArray, List.set_cons_zero, List.set_cons_succ]
          refine wpAnyH_take (i := 2) (oi := ⟨some 45, _, _, _, _, _⟩) (v := ?_) rfl (by kernel_rfl) (by kernel_rfl) (by kernel_rfl) (fun _ _ _ h => h) (Or.inl ⟨by rfl, ?_⟩) (by assumption) ?_
          rotate_left
          · (intro w hSw; (try dsimp only at hSw); go_simp; try with_reducible rfl)
          try simp only [Act.put, List.setIfInBounds_toArray, List.set_cons_zero, List.set_cons_succ]
          refine wpAnyH_take (i := 3) (oi := ⟨some 46, _, _, _, _, _⟩) (v := ?_) rfl (by kernel_rfl) (by kernel_rfl) (by kernel_rfl) (fun _ _ _ h => h) (Or.inl ⟨by rfl, ?_⟩) (by assumption) ?_
          rotate_left
          · (intro w hSw; (try dsimp only at hSw); go_simp; try with_reducible rfl)
          try simp only [Act.put, List.setIfInBounds_toArray, List.set_cons_zero, List.set_cons_succ]
          refine wpAnyH_take (i := 4) (oi := ⟨some 47, _, _, _, _, _⟩) (v := ?_) rfl (by kernel_rfl) (by kernel_rfl) (by kernel_rfl) (fun _ _ _ h => h) (Or.inl ⟨by rfl, ?_⟩) (by assumption) ?_
          rotate_left
          · (intro w hSw; (try dsimp only at hSw); go_simp; try with_reducible rfl)
          try simp only [Act.put, List.setIfInBounds_toArray, List.set_cons_zero, List.set_cons_succ]
          refine wpAnyH_take (i := 5) (oi := ⟨some 48, _, _, _, _, _⟩) (v := ?_) rfl (by kernel_rfl) (by kernel_rfl) (by kernel_rfl) (fun _ _ _ h => h) (Or.inl ⟨by rfl, ?_⟩) (by assumption) ?_
          rotate_left
          · (intro w hSw; (try dsimp only at hSw); go_simp; try with_reducible rfl)
          try simp only [Act.put, List.setIfInBounds_toArray, List.set_cons_zero, List.set_cons_succ]
          refine wpAnyH_take (i := 6) (oi := ⟨some 49, _, _, _, _, _⟩) (v := ?_) rfl (by kernel_rfl) (by kernel_rfl) (by kernel_rfl) (fun _ _ _ h => h) (Or.inl ⟨by rfl, ?_⟩) (by assumption) ?_
          rotate_left
          · (intro w hSw; (try dsimp only at hSw); go_simp; try with_reducible rfl)
          try simp only [Act.put, List.setIfInBounds_toArray, List.set_cons_zero, List.set_cons_succ]
          refine wpAnyH_ready (rs := [1, 7]) (by kernel_rfl) (by simp) ?_
          refine AllReadyH.cons (o := ⟨some 44, _, _, _, _, _⟩) rfl (fun K hK => ?_) (AllReadyH.cons (o := ⟨some 50, _, _, _, _, _⟩) rfl (fun K hK => ?_) AllReadyH.nil)
          · have cX := hst.box.at (o := 1) rfl
            go_simp
            clear cX
            refine hK.out _ _ ?_ (fun hHeldX => ?_)
            · exact ⟨(HT.out _ hst.low).2, HVC.out _ hst.low⟩
            clear hK K hHeld
            rename _ => hHeld
            try simp only [Act.put, List.setIfInBounds_toArray, List.set_cons_zero, List.set_cons_succ]
            refine wpAnyH_ready (rs := [7]) (by kernel_rfl) (by simp) ?_
            refine AllReadyH.cons (o := ⟨some 50, _, _, _, _, _⟩) rfl (fun K hK => ?_) AllReadyH.nil
            go_simp
            have hstA := hst
            obtain ⟨a9, n9, c9, w9, hrun, hb9, hl9, h9⟩ := hstA.val ps (by rw [List.length_map]; omega)
            replace hst := hst.below (new_below _ (.cells #[.int .i64 ps] 3))
            refine hK.out _ _ ?_ (fun hHeldX => ?_)
            · exact ⟨(HT.out _ hst.low).2, HVC.out _ hst.low⟩
            clear hK K hHeld
            rename _ => hHeld
            try simp only [Act.put, List.setIfInBounds_toArray, List.set_cons_zero, List.set_cons_succ]
            refine wpAnyH_ready (rs := [8]) (by kernel_rfl) (by simp) ?_
            refine AllReadyH.cons (o := ⟨some 51, _, _, _, _, _⟩) rfl (fun K hK => ?_) AllReadyH.nil
            refine step_append_run rfl (.tmp 44) (.tmp 50) 30 rfl _ _ _ _ rfl rfl hrun ?_
            clear hrun hst hstA
            refine hK.out _ _ ?_ (fun hHeldX => ?_)
            · exact ⟨(HT.out _ hl9).2, HVC.out _ hl9⟩
            clear hK K hHeld
            rename _ => hHeld
            try simp only [Act.put, List.setIfInBounds_toArray, List.set_cons_zero, List.set_cons_succ]
            refine wpAnyH_take (i := 9) (oi := ⟨some 52, _, _, _, _, _⟩) (v := ?_) rfl (by kernel_rfl) (by kernel_rfl) (by kernel_rfl) (fun _ _ _ h => h) (Or.inl ⟨by rfl, ?_⟩) (by assumption) ?_
            rotate_left
            · (intro w hSw; (try dsimp only at hSw); go_simp; try with_reducible rfl)
            try simp only [Act.put, List.setIfInBounds_toArray, List.set_cons_zero, List.set_cons_succ]
            refine wpAnyH_ready (rs := [10]) (by kernel_rfl) (by simp) ?_
            refine AllReadyH.cons (o := ⟨none, _, _, _, _, _⟩) rfl (fun K hK => ?_) AllReadyH.nil
            have cX := hb9.at (o := 1) rfl
            have fX := hb9.frozen 1
            go_simp
            clear cX fX
            refine hK.out _ _ ?_ (fun hHeldX => ?_)
            · exact ⟨(HT.out _ h9.low).2, HVC.out _ h9.low⟩
            clear hK K hHeld
            rename _ => hHeld
            try simp only [Act.put, List.setIfInBounds_toArray, List.set_cons_zero, List.set_cons_succ]
            refine wpAnyH_done (by kernel_rfl) ?_ _
            refine NoPanic.normal ?_
            have HE := Lib.hid h9
            clear h9 hb9 hl9 hHeld
            go_wp2_with fail
            go_roundg (gk - 1)
            case measure => omega
            case rel => exact ⟨k + 1, _, _, M ++ [(pk, ps)], by omega, by go_num, HM2, by rw [List.map_append, List.map_append]; exact HE⟩
          · go_simp
            have hstA := hst
            obtain ⟨a9, n9, c9, w9, hrun, hb9, hl9, h9⟩ := hstA.val ps (by rw [List.length_map]; omega)
            replace hst := hst.below (new_below _ (.cells #[.int .i64 ps] 3))
            refine hK.out _ _ ?_ (fun hHeldX => ?_)
            · exact ⟨(HT.out _ hst.low).2, HVC.out _ hst.low⟩
            clear hK K hHeld
            rename _ => hHeld
            try simp only [Act.put, List.setIfInBounds_toArray, List.set_cons_zero, List.set_cons_succ]
            refine wpAnyH_ready (rs := [1]) (by kernel_rfl) (by simp) ?_
            refine AllReadyH.cons (o := ⟨some 44, _, _, _, _, _⟩) rfl (fun K hK => ?_) AllReadyH.nil
            have cX := hst.box.at (o := 1) rfl
            go_simp
            clear cX
            refine hK.out _ _ ?_ (fun hHeldX => ?_)
            · exact ⟨(HT.out _ hst.low).2, HVC.out _ hst.low⟩
            clear hK K hHeld
            rename _ => hHeld
            try simp only [Act.put, List.setIfInBounds_toArray, List.set_cons_zero, List.set_cons_succ]
            refine wpAnyH_ready (rs := [8]) (by kernel_rfl) (by simp) ?_
            refine AllReadyH.cons (o := ⟨some 51, _, _, _, _, _⟩) rfl (fun K hK => ?_) AllReadyH.nil
            refine step_append_run rfl (.tmp 44) (.tmp 50) 30 rfl _ _ _ _ rfl rfl hrun ?_
            clear hrun hst hstA
            refine hK.out _ _ ?_ (fun hHeldX => ?_)
            · exact ⟨(HT.out _ hl9).2, HVC.out _ hl9⟩
            clear hK K hHeld
            rename _ => hHeld
            try simp only [Act.put, List.setIfInBounds_toArray, List.set_cons_zero, List.set_cons_succ]
            refine wpAnyH_take (i := 9) (oi := ⟨some 52, _, _, _, _, _⟩) (v := ?_) rfl (by kernel_rfl) (by kernel_rfl) (by kernel_rfl) (fun _ _ _ h => h) (Or.inl ⟨by rfl, ?_⟩) (by assumption) ?_
            rotate_left
            · (intro w hSw; (try dsimp only at hSw); go_simp; try with_reducible rfl)
            try simp only [Act.put, List.setIfInBounds_toArray, List.set_cons_zero, List.set_cons_succ]
            refine wpAnyH_ready (rs := [10]) (by kernel_rfl) (by simp) ?_
            refine AllReadyH.cons (o := ⟨none, _, _, _, _, _⟩) rfl (fun K hK => ?_) AllReadyH.nil
            have cX := hb9.at (o := 1) rfl
            have fX := hb9.frozen 1
            go_simp
            clear cX fX
            refine hK.out _ _ ?_ (fun hHeldX => ?_)
            · exact ⟨(HT.out _ h9.low).2, HVC.out _ h9.low⟩
            clear hK K hHeld
            rename _ => hHeld
            try simp only [Act.put, List.setIfInBounds_toArray, List.set_cons_zero, List.set_cons_succ]
            refine wpAnyH_done (by kernel_rfl) ?_ _
            refine NoPanic.normal ?_
            have HE := Lib.hid h9
            clear h9 hb9 hl9 hHeld
            go_wp2_with fail
            go_roundg (gk - 1)
            case measure => omega
            case rel => exact ⟨k + 1, _, _, M ++ [(pk, ps)], by omega, by go_num, HM2, by rw [List.map_append, List.map_append]; exact HE⟩
    · obtain rfl : k = P.length := by omega
      have hge : ¬ ((P.length : Int) < (P.length : Int)) := by omega
      rw [List.take_length] at HM
      obtain ⟨a1, c1, rfl⟩ := own_form ST.out.keys
      obtain ⟨a2, c2, rfl⟩ := own_form ST.out.vals
      have o0 := ST.out.box.at (o := 0) rfl
      have o1 := ST.out.box.at (o := 1) rfl
      have HE := Lib.hid (HD.out.2.below ST.out.low (by omega))
      have e0 := HE.out.at (o := 0) rfl
      have e1 := HE.out.at (o := 1) rfl
      have f0 := HE.out.frozen 0
      have f1 := HE.out.frozen 1
      have HR : Hid (RfAt (fun j => S j ∨ j = w.heap.size + 1) wr (.agg #[.slice a1 (M.map Prod.fst).length c1, .slice a2 (M.map Prod.snd).length c2]) (woP P (f, s))) := Lib.hid (by
        rw [← HM.out]
        refine rfAt_rows (B := O) ?_ ?_ (fun j hj e => e.elim (fun e => HSS.out j (by have := B4.out.size; omega) e) (fun e => by omega))
        · have := ST.out.keys
          rw [List.map_map, List.length_map] at this
          rw [List.length_map]
          exact this
        · have := ST.out.vals
          rw [List.map_map, List.length_map] at this
          rw [List.length_map]
          exact this)
      have HLo : Hid (Below w.heap.size w wr) := Lib.hid (B4.out.trans (ST.out.low.mono (by omega)))
      clear ST HM
      go_wp2
      have hr := blk_put13 HE.out (.slice a1 (M.map Prod.fst).length c1) (.slice a2 (M.map Prod.snd).length c2)
      simp only [List.length_map] at hr HR ⊢
      have r0 := hr.at (o := 0) rfl
      have r1 := hr.at (o := 1) rfl
      refine bodyPost_ret (by simp [results, Tryz.f8, go_sem, r0, r1]; rfl) rfl ?_
      exact ⟨_, rfl, by
        obtain ⟨ka', kc', va', vc', e1, e2, e3, e4, e5⟩ := HR.out.only (only_put13 _ (w.heap.size + 1) (.slice a1 M.length c1) (.slice a2 M.length c2)) (fun k e => .inr e)
        exact ⟨ka', kc', va', vc', e1, e2, e3, fun g o n c he hg => e4 g o n c he (.inl hg), fun g o n c he hg => e5 g o n c he (.inl hg)⟩, (HLo.out.setCell (p := ⟨w.heap.size + 1, 0, none⟩) (Nat.le_succ _) _).setCell (p := ⟨w.heap.size + 1, 1, none⟩) (Nat.le_succ _) _⟩
end Go.Proofs.YtmfejpbijllojaaGreat
