/- SetMaps' walk. Made by tools/gen_maps.py. -/
import Derived.Test.YtlfehhegkpoojaaSame3
import Derived.Test.YtlfehhegkpoojaaArgs3
import Derived.Test.YtlfehhegkpoojaaLaw3Sets
import Derived.Deep.CutBlock
import Derived.Deep.LoopGhost
namespace Go.Proofs.Ytlfehhegkpoojaa
open Go.RowKit Go.Shelf

/-- A cell that holds no slice. -/
def NoSl (x : Value) : Prop := ∀ a n c, x ≠ .slice a n c
/-- What holds no slices stays where only blocks of slices change. -/
theorem SliceK.kept {W W' : World} {k n : Nat} {v : Value} {cs : List Value} (h : SliceK W k v n cs) (hz : W.heap.size ≤ W'.heap.size) (hc : ∀ x ∈ cs, NoSl x)
    (hk : ∀ b, (∀ i x, W.cell? ⟨b, i, none⟩ = some x → ∃ a n c, x = .slice a n c) ∨ W'.heap[b]? = W.heap[b]?) : SliceK W' k v n cs := by
  obtain ⟨h0, h1 | ⟨b, off, cap, hv, h2, h3, h4⟩⟩ := h
  · exact ⟨h0, .inl h1⟩
  · refine ⟨h0, .inr ⟨b, off, cap, hv, h2, Nat.lt_of_lt_of_le h3 hz, fun j x hx => ?_⟩⟩
    rcases hk b with hs | he
    · obtain ⟨a, n, c, e⟩ := hs _ _ (h4 j x hx)
      exact (hc x (List.mem_of_getElem? hx) a n c e).elim
    · exact (World.cell?_of_block (w := W) he).trans (h4 j x hx)
theorem noSl_ents (E : List Ent) : ∀ x ∈ E.flatMap encE, NoSl x := fun x hx => by
  obtain ⟨p, _, hp⟩ := List.mem_flatMap.1 hx
  simp only [List.mem_cons, List.not_mem_nil, or_false] at hp
  rcases hp with rfl | rfl
  · intro a n c e; cases e
  · intro a n c e; cases e
theorem MapIn.kept {W W' : World} {v : Value} {E : List Ent} (h : MapIn W v E) (hz : W.heap.size ≤ W'.heap.size)
    (hk : ∀ b, (∀ i x, W.cell? ⟨b, i, none⟩ = some x → ∃ a n c, x = .slice a n c) ∨ W'.heap[b]? = W.heap[b]?) : MapIn W' v E := by
  obtain ⟨⟨s, hv, hs⟩, hu⟩ := h
  exact ⟨⟨s, hv, hs.kept hz (noSl_ents E) hk⟩, hu⟩
theorem RefIn.kept {W W' : World} {v : Value} {E : List Ent} (h : RefIn W v E) (hz : W.heap.size ≤ W'.heap.size)
    (hk : ∀ b, (∀ i x, W.cell? ⟨b, i, none⟩ = some x → ∃ a n c, x = .slice a n c) ∨ W'.heap[b]? = W.heap[b]?) : RefIn W' v E := by
  obtain ⟨ka, kc, va, vc, hv, h1, h2⟩ := h
  refine ⟨ka, kc, va, vc, hv, h1.kept hz (fun x hx => ?_) hk, h2.kept hz (fun x hx => ?_) hk⟩
  · obtain ⟨p, _, rfl⟩ := List.mem_map.1 hx
    intro a n c e; cases e
  · obtain ⟨p, _, rfl⟩ := List.mem_map.1 hx
    intro a n c e; cases e
theorem cells1_slice {W : World} {P : Nat} {t : TypeId} {a : Option Addr} {n c : Nat} (h : W.heap[P]? = some (.cells #[.slice a n c] t (0, 0))) (i : Nat) (x : Value) (hx : W.cell? ⟨P, i, none⟩ = some x) : ∃ a n c, x = .slice a n c := by
  simp only [World.cell?, h] at hx
  cases i with
  | zero => simp at hx; exact ⟨_, _, _, hx.symm⟩
  | succ i => simp at hx
theorem cells2_slice {W : World} {P : Nat} {t : TypeId} {a b : Option Addr} {n c m d : Nat} (h : W.heap[P]? = some (.cells #[.slice a n c, .slice b m d] t (0, 0))) (i : Nat) (x : Value) (hx : W.cell? ⟨P, i, none⟩ = some x) : ∃ a n c, x = .slice a n c := by
  simp only [World.cell?, h] at hx
  match i, hx with
  | 0, hx => simp at hx; exact ⟨_, _, _, hx.symm⟩
  | 1, hx => simp at hx; exact ⟨_, _, _, hx.symm⟩
  | i + 2, hx => simp at hx

/-- Where SetMaps' loop stands. -/
structure MStand (w1 wr : World) (sa : Option Addr) (sn sc : Nat) (ka : Option Addr) (kn kc : Nat) (va : Option Addr) (vn vc : Nat) (E : List Ent) : Prop where
  box7 : wr.heap[w1.heap.size]? = some (.cells #[.slice sa sn sc] 39 (0, 0))
  box8 : wr.heap[w1.heap.size + 1]? = some (.cells #[.slice ka kn kc, .slice va vn vc] 41 (0, 0))
  m : MapIn wr (.agg #[.slice sa sn sc]) E
  x : RefIn wr (.agg #[.slice ka kn kc, .slice va vn vc]) E
  below : Below w1.heap.size w1 wr
/-- What was, kept beside. -/
structure WasIn (wr wx : World) (p10 p11 : Nat) (sa : Option Addr) (sn sc : Nat) (ka : Option Addr) (kn kc : Nat) (va : Option Addr) (vn vc : Nat) : Prop where
  b10 : wx.heap[p10]? = some (.cells #[.slice sa sn sc] 39 (0, 0))
  b11 : wx.heap[p11]? = some (.cells #[.slice ka kn kc, .slice va vn vc] 41 (0, 0))
  l10 : wr.heap.size ≤ p10
  l11 : wr.heap.size ≤ p11
  below : Below wr.heap.size wr wx
theorem MStand.next {w1 wr wx : World} {sa : Option Addr} {sn sc : Nat} {ka : Option Addr} {kn kc : Nat} {va : Option Addr} {vn vc : Nat} {E : List Ent} (h : MStand w1 wr sa sn sc ka kn kc va vn vc E) (hb : Below wr.heap.size wr wx) : MStand w1 wx sa sn sc ka kn kc va vn vc E :=
  have h7 : w1.heap.size + 1 < wr.heap.size := (Array.getElem?_eq_some_iff.1 h.box8).1
  ⟨(hb.block w1.heap.size (by omega)).trans h.box7, (hb.block _ h7).trans h.box8, h.m.below hb, h.x.below hb, below_step h.below hb⟩
/-- Behind the change. -/
structure AftIn (w1 wx : World) (p10 p11 : Nat) (sa : Option Addr) (sn sc : Nat) (ka : Option Addr) (kn kc : Nat) (va : Option Addr) (vn vc : Nat) (E : List Ent) (sa2 : Option Addr) (sn2 sc2 : Nat) (ka2 : Option Addr) (kn2 kc2 : Nat) (va2 : Option Addr) (vn2 vc2 : Nat) (E2 : List Ent) : Prop where
  st : MStand w1 wx sa2 sn2 sc2 ka2 kn2 kc2 va2 vn2 vc2 E2
  b10 : wx.heap[p10]? = some (.cells #[.slice sa sn sc] 39 (0, 0))
  b11 : wx.heap[p11]? = some (.cells #[.slice ka kn kc, .slice va vn vc] 41 (0, 0))
  m : MapIn wx (.agg #[.slice sa sn sc]) E
  x : RefIn wx (.agg #[.slice ka kn kc, .slice va vn vc]) E
theorem RefIn.form {W : World} {v : Value} {E : List Ent} (h : RefIn W v E) : ∃ ka kn kc va vn vc, v = .agg #[.slice ka kn kc, .slice va vn vc] := by
  obtain ⟨ka, kc, va, vc, hv, _⟩ := h
  exact ⟨_, _, _, _, _, _, hv⟩
theorem mem_putE {k : Key} {v : Int} {p : Ent} : ∀ {E : List Ent}, p ∈ putE k v E → p ∈ E ∨ p.1 = k
  | [], h => by
    simp [putE] at h
    exact .inr (by rw [h])
  | q :: r, h => by
    unfold putE at h
    split at h
    · rcases List.mem_cons.1 h with rfl | h
      · exact .inl (by simp)
      · rcases mem_putE h with h | h
        · exact .inl (List.mem_cons_of_mem _ h)
        · exact .inr h
    · rcases List.mem_cons.1 h with rfl | h
      · exact .inr rfl
      · exact .inl ((List.mem_filter.1 h).1)
/-- Both boxes are written. -/
theorem puts {w1 w3 : World} {sa : Option Addr} {sn sc : Nat} {ka : Option Addr} {kn kc : Nat} {va : Option Addr} {vn vc : Nat} {E : List Ent} (h : MStand w1 w3 sa sn sc ka kn kc va vn vc E)
    {p10 p11 : Nat} (hp : w1.heap.size + 1 < p10) (hp' : w1.heap.size + 1 < p11) (b10 : w3.heap[p10]? = some (.cells #[.slice sa sn sc] 39 (0, 0))) (b11 : w3.heap[p11]? = some (.cells #[.slice ka kn kc, .slice va vn vc] 41 (0, 0)))
    {sa2 : Option Addr} {sn2 sc2 : Nat} {ka2 : Option Addr} {kn2 kc2 : Nat} {va2 : Option Addr} {vn2 vc2 : Nat} {E2 : List Ent} (hm : MapIn w3 (.agg #[.slice sa2 sn2 sc2]) E2) (hx : RefIn w3 (.agg #[.slice ka2 kn2 kc2, .slice va2 vn2 vc2]) E2) :
    AftIn w1 (((w3.setCell ⟨w1.heap.size, 0, none⟩ (.slice sa2 sn2 sc2)).setCell ⟨w1.heap.size + 1, 0, none⟩ (.slice ka2 kn2 kc2)).setCell ⟨w1.heap.size + 1, 1, none⟩ (.slice va2 vn2 vc2)) p10 p11 sa sn sc ka kn kc va vn vc E sa2 sn2 sc2 ka2 kn2 kc2 va2 vn2 vc2 E2 := by
  have hz : ∀ (W : World) (p : Addr) (v : Value), (W.setCell p v).heap.size = W.heap.size := fun W p v => by simp [World.setCell]
  have far : ∀ b, b ≠ w1.heap.size → b ≠ w1.heap.size + 1 → (((w3.setCell ⟨w1.heap.size, 0, none⟩ (.slice sa2 sn2 sc2)).setCell ⟨w1.heap.size + 1, 0, none⟩ (.slice ka2 kn2 kc2)).setCell ⟨w1.heap.size + 1, 1, none⟩ (.slice va2 vn2 vc2)).heap[b]? = w3.heap[b]? := fun b h1 h2 =>
    (Below.heap_setCell _ _ _ _ (fun e => h2 e)).trans ((Below.heap_setCell _ _ _ _ (fun e => h2 e)).trans (Below.heap_setCell _ _ _ _ (fun e => h1 e)))
  have hk : ∀ b, (∀ i x, w3.cell? ⟨b, i, none⟩ = some x → ∃ a n c, x = .slice a n c) ∨ (((w3.setCell ⟨w1.heap.size, 0, none⟩ (.slice sa2 sn2 sc2)).setCell ⟨w1.heap.size + 1, 0, none⟩ (.slice ka2 kn2 kc2)).setCell ⟨w1.heap.size + 1, 1, none⟩ (.slice va2 vn2 vc2)).heap[b]? = w3.heap[b]? := fun b => by
    by_cases h1 : b = w1.heap.size
    · subst h1; exact .inl (cells1_slice h.box7)
    · by_cases h2 : b = w1.heap.size + 1
      · subst h2; exact .inl (cells2_slice h.box8)
      · exact .inr (far b h1 h2)
  have hs : w3.heap.size ≤ (((w3.setCell ⟨w1.heap.size, 0, none⟩ (.slice sa2 sn2 sc2)).setCell ⟨w1.heap.size + 1, 0, none⟩ (.slice ka2 kn2 kc2)).setCell ⟨w1.heap.size + 1, 1, none⟩ (.slice va2 vn2 vc2)).heap.size := by rw [hz, hz, hz]; exact Nat.le_refl _
  have e7 : (w3.setCell ⟨w1.heap.size, 0, none⟩ (.slice sa2 sn2 sc2)).heap[w1.heap.size]? = some (.cells #[.slice sa2 sn2 sc2] 39 (0, 0)) := (show Boxed w3 w1.heap.size 39 (.slice sa sn sc) from h.box7).set _
  have e8 : (w3.setCell ⟨w1.heap.size, 0, none⟩ (.slice sa2 sn2 sc2)).heap[w1.heap.size + 1]? = some (.cells #[.slice ka kn kc, .slice va vn vc] 41 (0, 0)) := (Below.heap_setCell _ _ _ _ (fun e => by simp at e)).trans h.box8
  refine ⟨⟨?_, (heap_set2 (heap_set2 e8 _).1 _).2, hm.kept hs hk, hx.kept hs hk, ?_⟩, (far _ (by omega) (by omega)).trans b10, (far _ (by omega) (by omega)).trans b11, h.m.kept hs hk, h.x.kept hs hk⟩
  · exact (Below.heap_setCell _ _ _ _ (fun e => by simp at e)).trans ((Below.heap_setCell _ _ _ _ (fun e => by simp at e)).trans e7)
  · exact ((h.below.setCell (p := ⟨w1.heap.size, 0, none⟩) (Nat.le_refl _) _).setCell (p := ⟨w1.heap.size + 1, 0, none⟩) (by show w1.heap.size ≤ w1.heap.size + 1; omega) _).setCell (p := ⟨w1.heap.size + 1, 1, none⟩) (by show w1.heap.size ≤ w1.heap.size + 1; omega) _
theorem gets (key : Key) (E : List Ent) : ∃ (gv : Int) (go : Bool),
    (∀ v w, MapIn w v E → E.length ≤ 100000 → Calls Try.prog 22 #[v, keyV key] w fun e w' => e = .returned (.tuple #[.int .i64 gv, .bool go]) ∧ Below w.heap.size w w') ∧
    (∀ v w, RefIn w v E → E.length ≤ 100000 → Calls Try.prog 23 #[v, keyV key] w fun e w' => e = .returned (.tuple #[.int .i64 gv, .bool go]) ∧ Below w.heap.size w w') :=
  ⟨_, _, fun v w h hb => map_Get v E key w h hb, fun v w h hb => ref_Get v E key w h hb⟩
theorem cell1 {W : World} {P : Nat} {t : TypeId} {x : Value} (h : W.heap[P]? = some (.cells #[x] t (0, 0))) : W.cell? ⟨P, 0, none⟩ = some x := by simp [World.cell?, h]
theorem cell2 {W : World} {P : Nat} {t : TypeId} {x y : Value} (h : W.heap[P]? = some (.cells #[x, y] t (0, 0))) : W.cell? ⟨P, 0, none⟩ = some x := by simp [World.cell?, h]
theorem cell2' {W : World} {P : Nat} {t : TypeId} {x y : Value} (h : W.heap[P]? = some (.cells #[x, y] t (0, 0))) : W.cell? ⟨P, 1, none⟩ = some y := by simp [World.cell?, h]
theorem keep_a {wr : World} {P : Nat} {s k v : Value} (c7 : wr.cell? ⟨P, 0, none⟩ = some s) (c8 : wr.cell? ⟨P + 1, 0, none⟩ = some k) (c9 : wr.cell? ⟨P + 1, 1, none⟩ = some v) (hl : P + 1 < wr.heap.size) (o : Obj) :
    (wr.alloc o).drew.cell? ⟨P, 0, none⟩ = some s ∧ (wr.alloc o).drew.cell? ⟨P + 1, 0, none⟩ = some k ∧ (wr.alloc o).drew.cell? ⟨P + 1, 1, none⟩ = some v := by
  have B : Below wr.heap.size wr (wr.alloc o).drew := ((Below.refl _ _).alloc (Nat.le_refl _) _).drew
  exact ⟨(B.cell (p := ⟨P, 0, none⟩) (by show P < _; omega)).trans c7, (B.cell (p := ⟨P + 1, 0, none⟩) hl).trans c8, (B.cell (p := ⟨P + 1, 1, none⟩) hl).trans c9⟩
theorem keep_b {wr : World} {P : Nat} {s k v : Value} (c7 : wr.cell? ⟨P, 0, none⟩ = some s) (c8 : wr.cell? ⟨P + 1, 0, none⟩ = some k) (c9 : wr.cell? ⟨P + 1, 1, none⟩ = some v) (hl : P + 1 < wr.heap.size) (o o' : Obj) :
    ((wr.alloc o).alloc o').drew.cell? ⟨P, 0, none⟩ = some s ∧ ((wr.alloc o).alloc o').drew.cell? ⟨P + 1, 0, none⟩ = some k ∧ ((wr.alloc o).alloc o').drew.cell? ⟨P + 1, 1, none⟩ = some v := by
  have B : Below wr.heap.size wr ((wr.alloc o).alloc o').drew := (((Below.refl _ _).alloc (Nat.le_refl _) _).alloc (by simp) _).drew
  exact ⟨(B.cell (p := ⟨P, 0, none⟩) (by show P < _; omega)).trans c7, (B.cell (p := ⟨P + 1, 0, none⟩) hl).trans c8, (B.cell (p := ⟨P + 1, 1, none⟩) hl).trans c9⟩
theorem was_a {sa : Option Addr} {sn sc : Nat} {ka : Option Addr} {kn kc : Nat} {va : Option Addr} {vn vc : Nat} (wr : World) : WasIn wr (((wr.alloc (.cells #[.slice sa sn sc] 39)).alloc (.cells #[.slice ka kn kc, .slice va vn vc] 41)).drew) wr.heap.size (wr.heap.size + 1) sa sn sc ka kn kc va vn vc := by
  refine ⟨?_, ?_, Nat.le_refl _, by omega, (((Below.refl _ _).alloc (Nat.le_refl _) _).alloc (by simp) _).drew⟩
  · show ((wr.alloc _).alloc _).heap[wr.heap.size]? = _
    rw [heap_alloc_at, if_neg (by simp), heap_alloc_at, if_pos rfl]
  · show ((wr.alloc _).alloc _).heap[wr.heap.size + 1]? = _
    rw [heap_alloc_at, if_pos (by simp)]
theorem was_b {sa : Option Addr} {sn sc : Nat} {ka : Option Addr} {kn kc : Nat} {va : Option Addr} {vn vc : Nat} (wr : World) : WasIn wr (((wr.alloc (.cells #[.slice ka kn kc, .slice va vn vc] 41)).alloc (.cells #[.slice sa sn sc] 39)).drew) (wr.heap.size + 1) wr.heap.size sa sn sc ka kn kc va vn vc := by
  refine ⟨?_, ?_, by omega, Nat.le_refl _, (((Below.refl _ _).alloc (Nat.le_refl _) _).alloc (by simp) _).drew⟩
  · show ((wr.alloc _).alloc _).heap[wr.heap.size + 1]? = _
    rw [heap_alloc_at, if_pos (by simp)]
  · show ((wr.alloc _).alloc _).heap[wr.heap.size]? = _
    rw [heap_alloc_at, if_neg (by simp), heap_alloc_at, if_pos rfl]
theorem frozen1 {W : World} {P : Nat} {t : TypeId} {cs : Array Value} (h : W.heap[P]? = some (.cells cs t (0, 0))) (i : Nat) : W.frozen? ⟨P, i, none⟩ = false := by simp [World.frozen?, h]

set_option maxRecDepth 100000 in
set_option maxHeartbeats 8000000 in
theorem maps_main (a va pa : Option Addr) (cap vcap pcap : Nat) (L : List Key) (V : List Int) (Lp : List Bool) (w : World) (h : ListIn keyV w a L) (hv : ListIn numV w va V) (hp : ListIn Value.bool w pa Lp)
    (hl : L.length ≤ 300) (hlp : L.length ≤ Lp.length) (hlv : L.length ≤ V.length) :
    Calls Try.prog 4 #[.slice a L.length cap, .slice va V.length vcap, .slice pa Lp.length pcap] w fun e w' => e = .returned (.bool true) ∧ Below w.heap.size w w' := by
  have HA := Lib.hid h
  have HV := Lib.hid hv
  have HP := Lib.hid hp
  clear h hv hp
  have g1 : ¬ 300 < L.length := by omega
  have g2 : ¬ Lp.length < L.length := by omega
  have g3 : ¬ V.length < L.length := by omega
  go_enter Try.func4, Try.ntmps4
  go_wp2_with fail
  refine (awake3 _).mono ?_
  rintro e w1 ⟨rfl, hB1⟩
  have hz1 := hB1.size
  have B1 := Lib.hid hB1
  clear hB1
  go_wp2
  go_loopg [9] L.length (fun g i wr => ∃ (k : Nat) (E : List Ent) (sa : Option Addr) (sn sc : Nat) (ka : Option Addr) (kn kc : Nat) (xa : Option Addr) (xn xc : Nat), k + g = L.length ∧ i = .int .i64 k ∧ E.length ≤ k ∧ Hid (∀ p ∈ E, p.1.length ≤ 100) ∧ MStand w1 wr sa sn sc ka kn kc xa xn xc E)
  case atStart =>
    refine ⟨0, [], none, 0, 0, none, 0, 0, none, 0, 0, by omega, rfl, Nat.le_refl _, fun p hp => absurd hp (by simp), ⟨?_, ?_, ⟨⟨_, rfl, ⟨rfl, .inl ⟨rfl, rfl⟩⟩⟩, List.Pairwise.nil⟩, ⟨none, 0, none, 0, rfl, ⟨rfl, .inl ⟨rfl, rfl⟩⟩, ⟨rfl, .inl ⟨rfl, rfl⟩⟩⟩, ((Below.refl _ _).alloc (Nat.le_refl _) _).alloc (by simp) _⟩⟩
    · rw [heap_alloc_at, if_neg (by simp), heap_alloc_at, if_pos rfl]
    · rw [heap_alloc_at, if_pos (by simp)]
  case round =>
    obtain ⟨k, E, sa, sn, sc, ka, kn, kc, xa, xn, xc, hk, rfl, hE, HK, st⟩ := hrel
    have hzr := st.below.size
    have hl7 : w1.heap.size + 1 < wr.heap.size := (Array.getElem?_eq_some_iff.1 st.box8).1
    have BR := Lib.hid (B1.out.trans (st.below.mono hz1))
    by_cases hlt : k < L.length
    · obtain ⟨b, off, rfl, hb, hx⟩ := HA.out.at k hlt
      obtain ⟨vb, voff, rfl, hvb, hvv⟩ := HV.out.at k (by omega)
      obtain ⟨pb, poff, rfl, hpb, hpv⟩ := HP.out.at k (by omega)
      have hx0 := (BR.out.cell (p := ⟨b, off + k, none⟩) hb).trans hx
      have hv0 := (BR.out.cell (p := ⟨vb, voff + k, none⟩) hvb).trans hvv
      have hp0 := (BR.out.cell (p := ⟨pb, poff + k, none⟩) hpb).trans hpv
      generalize L[k] = key at hx hx0
      generalize V[k] = x at hvv hv0
      generalize Lp[k] = pt at hpv hp0
      have HX0 := Lib.hid hx
      have HV0 := Lib.hid hvv
      have HP0 := Lib.hid hpv
      clear hx hvv hpv
      have HK7 := Lib.hid hk
      clear hk
      have ST := Lib.hid st
      clear st
      by_cases hkl : 100 < key.length
      · go_wp2
        go_ret
        exact ⟨rfl, BR.out⟩
      · have hkp : k < Lp.length := by omega
        have hkv : k < V.length := by omega
        go_upto_region 12 with fail
        go_cut [10, 11] from 36 to 123 (fun s10 s11 wx => ∃ p10 p11 : Nat, s10 = .pointer (some ⟨p10, 0, none⟩) ∧ s11 = .pointer (some ⟨p11, 0, none⟩) ∧ WasIn wr wx p10 p11 sa sn sc ka kn kc xa xn xc)
        case first =>
          have c7 := cell1 ST.out.box7
          have c8 := cell2 ST.out.box8
          have c9 := cell2' ST.out.box8
          have K1 := Lib.hid (keep_a c7 c8 c9 hl7)
          have K2 := Lib.hid (keep_b c7 c8 c9 hl7)
          refine wp_region_noPanic ?_
          refine wp_region_held_drew (S := (fun w' => w'.cell? ⟨w1.heap.size, 0, none⟩ = some (.slice sa sn sc) ∧ w'.cell? ⟨w1.heap.size + 1, 0, none⟩ = some (.slice ka kn kc) ∧ w'.cell? ⟨w1.heap.size + 1, 1, none⟩ = some (.slice xa xn xc))) (by kernel_rfl) ?_ (fun hHeld => ?_)
          · exact ⟨c7, c8, c9⟩
          refine wpAnyH_take (i := 0) (oi := ⟨some 48, _, _, _, _, _⟩) (v := ?_) rfl (by kernel_rfl) (by kernel_rfl) (by kernel_rfl) (fun _ _ _ h => h) (Or.inl ⟨by rfl, ?_⟩) (by assumption) ?_
          rotate_left
          · (intro w hSw; (try dsimp only at hSw); go_simp; try with_reducible rfl)
          try simp only [Act.put, List.setIfInBounds_toArray, List.set_cons_zero, List.set_cons_succ]
          refine wpAnyH_take (i := 1) (oi := ⟨some 49, _, _, _, _, _⟩) (v := ?_) rfl (by kernel_rfl) (by kernel_rfl) (by kernel_rfl) (fun _ _ _ h => h) (Or.inl ⟨by rfl, ?_⟩) (by assumption) ?_
          rotate_left
          · (intro w hSw; (try dsimp only at hSw); go_simp; try with_reducible rfl)
          try simp only [Act.put, List.setIfInBounds_toArray, List.set_cons_zero, List.set_cons_succ]
          refine wpAnyH_ready (rs := [2, 3]) (by kernel_rfl) (by simp) ?_
          refine AllReadyH.cons (o := ⟨some 10, _, _, _, _, _⟩) rfl (fun K hK => ?_) (AllReadyH.cons (o := ⟨some 11, _, _, _, _, _⟩) rfl (fun K hK => ?_) AllReadyH.nil)
          · go_simp
            refine hK.out _ _ ?_ (fun hHeldX => ?_)
            · first | exact K1.out _ | exact K2.out _ _
            clear hK K hHeld
            rename _ => hHeld
            try simp only [Act.put, List.setIfInBounds_toArray, List.set_cons_zero, List.set_cons_succ]
            refine wpAnyH_ready (rs := [3]) (by kernel_rfl) (by simp) ?_
            refine AllReadyH.cons (o := ⟨some 11, _, _, _, _, _⟩) rfl (fun K hK => ?_) AllReadyH.nil
            go_simp
            refine hK.out _ _ ?_ (fun hHeldX => ?_)
            · first | exact K1.out _ | exact K2.out _ _
            clear hK K hHeld
            rename _ => hHeld
            try simp only [Act.put, List.setIfInBounds_toArray, List.set_cons_zero, List.set_cons_succ]
            refine wpAnyH_ready (rs := [4]) (by kernel_rfl) (by simp) ?_
            refine AllReadyH.cons (o := ⟨none, _, _, _, _, _⟩) rfl (fun K hK => ?_) AllReadyH.nil
            go_simp
            refine hK.out _ _ ?_ (fun hHeldX => ?_)
            · first | exact K1.out _ | exact K2.out _ _
            clear hK K hHeld
            rename _ => hHeld
            try simp only [Act.put, List.setIfInBounds_toArray, List.set_cons_zero, List.set_cons_succ]
            refine wpAnyH_ready (rs := [5]) (by kernel_rfl) (by simp) ?_
            refine AllReadyH.cons (o := ⟨none, _, _, _, _, _⟩) rfl (fun K hK => ?_) AllReadyH.nil
            go_simp
            refine hK.out _ _ ?_ (fun hHeldX => ?_)
            · first | exact K1.out _ | exact K2.out _ _
            clear hK K hHeld
            rename _ => hHeld
            try simp only [Act.put, List.setIfInBounds_toArray, List.set_cons_zero, List.set_cons_succ]
            refine wpAnyH_done (by kernel_rfl) ?_ _
            refine NoPanic.normal ?_
            go_wp2_with fail
            go_meet
            case rel => exact ⟨_, _, rfl, rfl, by first | exact was_a _ | exact was_b _⟩
          · go_simp
            refine hK.out _ _ ?_ (fun hHeldX => ?_)
            · first | exact K1.out _ | exact K2.out _ _
            clear hK K hHeld
            rename _ => hHeld
            try simp only [Act.put, List.setIfInBounds_toArray, List.set_cons_zero, List.set_cons_succ]
            refine wpAnyH_ready (rs := [2]) (by kernel_rfl) (by simp) ?_
            refine AllReadyH.cons (o := ⟨some 10, _, _, _, _, _⟩) rfl (fun K hK => ?_) AllReadyH.nil
            go_simp
            refine hK.out _ _ ?_ (fun hHeldX => ?_)
            · first | exact K1.out _ | exact K2.out _ _
            clear hK K hHeld
            rename _ => hHeld
            try simp only [Act.put, List.setIfInBounds_toArray, List.set_cons_zero, List.set_cons_succ]
            refine wpAnyH_ready (rs := [4]) (by kernel_rfl) (by simp) ?_
            refine AllReadyH.cons (o := ⟨none, _, _, _, _, _⟩) rfl (fun K hK => ?_) AllReadyH.nil
            go_simp
            refine hK.out _ _ ?_ (fun hHeldX => ?_)
            · first | exact K1.out _ | exact K2.out _ _
            clear hK K hHeld
            rename _ => hHeld
            try simp only [Act.put, List.setIfInBounds_toArray, List.set_cons_zero, List.set_cons_succ]
            refine wpAnyH_ready (rs := [5]) (by kernel_rfl) (by simp) ?_
            refine AllReadyH.cons (o := ⟨none, _, _, _, _, _⟩) rfl (fun K hK => ?_) AllReadyH.nil
            go_simp
            refine hK.out _ _ ?_ (fun hHeldX => ?_)
            · first | exact K1.out _ | exact K2.out _ _
            clear hK K hHeld
            rename _ => hHeld
            try simp only [Act.put, List.setIfInBounds_toArray, List.set_cons_zero, List.set_cons_succ]
            refine wpAnyH_done (by kernel_rfl) ?_ _
            refine NoPanic.normal ?_
            go_wp2_with fail
            go_meet
            case rel => exact ⟨_, _, rfl, rfl, by first | exact was_a _ | exact was_b _⟩
        case rest =>
          obtain ⟨p10, p11, rfl, rfl, hw⟩ := hcut
          have hzc := hw.below.size
          have hl10 := hw.l10
          have hl11 := hw.l11
          have hl12 : p10 < wc.heap.size := (Array.getElem?_eq_some_iff.1 hw.b10).1
          have hl13 : p11 < wc.heap.size := (Array.getElem?_eq_some_iff.1 hw.b11).1
          have WS := Lib.hid hw
          have SC := Lib.hid (ST.out.next hw.below)
          clear hw
          have BC := Lib.hid (B1.out.trans (SC.out.below.mono hz1))
          have hpc := (BC.out.cell (p := ⟨pb, poff + k, none⟩) hpb).trans HP0.out
          go_upto_if 53 with fail
          clear hpc
          go_cut [] from 36 to 123 (fun wx => ∃ (E2 : List Ent) (sa2 : Option Addr) (sn2 sc2 : Nat) (ka2 : Option Addr) (kn2 kc2 : Nat) (xa2 : Option Addr) (xn2 xc2 : Nat), E2.length ≤ k + 1 ∧ Hid (∀ p ∈ E2, p.1.length ≤ 100) ∧ AftIn w1 wx p10 p11 sa sn sc ka kn kc xa xn xc E sa2 sn2 sc2 ka2 kn2 kc2 xa2 xn2 xc2 E2)
          case first =>
            have c7 := cell1 SC.out.box7
            have c8 := cell2 SC.out.box8
            have c9 := cell2' SC.out.box8
            have hxc := (BC.out.cell (p := ⟨b, off + k, none⟩) hb).trans HX0.out
            have hvc := (BC.out.cell (p := ⟨vb, voff + k, none⟩) hvb).trans HV0.out
            have q0 : b < wc.heap.size := by omega
            have q1 : vb < wc.heap.size := by omega
            have q7 : w1.heap.size < wc.heap.size := by omega
            have q8 : w1.heap.size + 1 < wc.heap.size := by omega
            have hb7 : b ≠ w1.heap.size := by omega
            have hb8 : b ≠ w1.heap.size + 1 := by omega
            have hv7 : vb ≠ w1.heap.size := by omega
            have hv8 : vb ≠ w1.heap.size + 1 := by omega
            have hBc : Below wc.heap.size wc wc.drew := (Below.refl _ _).drew
            cases pt
            · go_wp2_with fail
              refine wp_region_noPanic ?_
              refine wp_region_held_drew (S := (fun w' => w'.cell? ⟨b, off + k, none⟩ = some (keyV key))) (by kernel_rfl) ?_ (fun hHeld => ?_)
              · exact ((hBc.cell (p := ⟨b, off + k, none⟩) q0).trans hxc)
              refine wpAnyH_take (i := 1) (oi := ⟨some 75, _, _, _, _, _⟩) (v := ?_) rfl (by kernel_rfl) (by kernel_rfl) (by kernel_rfl) (fun _ _ _ h => h) (Or.inl ⟨by rfl, ?_⟩) (by assumption) ?_
              rotate_left
              · (intro w hSw; (try dsimp only at hSw); go_simp; try with_reducible rfl)
              try simp only [Act.put, List.setIfInBounds_toArray, List.set_cons_zero, List.set_cons_succ]
              refine wpAnyH_take (i := 2) (oi := ⟨some 76, _, _, _, _, _⟩) (v := ?_) rfl (by kernel_rfl) (by kernel_rfl) (by kernel_rfl) (fun _ _ _ h => h) (Or.inl ⟨by rfl, ?_⟩) (by assumption) ?_
              rotate_left
              · (intro w hSw; (try dsimp only at hSw); go_simp; try with_reducible rfl)
              try simp only [Act.put, List.setIfInBounds_toArray, List.set_cons_zero, List.set_cons_succ]
              refine wpAnyH_take (i := 3) (oi := ⟨some 77, _, _, _, _, _⟩) (v := ?_) rfl (by kernel_rfl) (by kernel_rfl) (by kernel_rfl) (fun _ _ _ h => h) (Or.inl ⟨by rfl, ?_⟩) (by assumption) ?_
              rotate_left
              · (intro w hSw; (try dsimp only at hSw); go_simp; try with_reducible rfl)
              try simp only [Act.put, List.setIfInBounds_toArray, List.set_cons_zero, List.set_cons_succ]
              refine wpAnyH_take (i := 4) (oi := ⟨some 78, _, _, _, _, _⟩) (v := ?_) rfl (by kernel_rfl) (by kernel_rfl) (by kernel_rfl) (fun _ _ _ h => h) (Or.inl ⟨by rfl, ?_⟩) (by assumption) ?_
              rotate_left
              · (intro w hSw; (try dsimp only at hSw); go_simp; try with_reducible rfl)
              try simp only [Act.put, List.setIfInBounds_toArray, List.set_cons_zero, List.set_cons_succ]
              refine wpAnyH_take (i := 7) (oi := ⟨some 81, _, _, _, _, _⟩) (v := ?_) rfl (by kernel_rfl) (by kernel_rfl) (by kernel_rfl) (fun _ _ _ h => h) (Or.inl ⟨by rfl, ?_⟩) (by assumption) ?_
              rotate_left
              · (intro w hSw; (try dsimp only at hSw); go_simp; try with_reducible rfl)
              try simp only [Act.put, List.setIfInBounds_toArray, List.set_cons_zero, List.set_cons_succ]
              refine wpAnyH_take (i := 8) (oi := ⟨some 82, _, _, _, _, _⟩) (v := ?_) rfl (by kernel_rfl) (by kernel_rfl) (by kernel_rfl) (fun _ _ _ h => h) (Or.inl ⟨by rfl, ?_⟩) (by assumption) ?_
              rotate_left
              · (intro w hSw; (try dsimp only at hSw); go_simp; try with_reducible rfl)
              try simp only [Act.put, List.setIfInBounds_toArray, List.set_cons_zero, List.set_cons_succ]
              refine wpAnyH_take (i := 9) (oi := ⟨some 83, _, _, _, _, _⟩) (v := ?_) rfl (by kernel_rfl) (by kernel_rfl) (by kernel_rfl) (fun _ _ _ h => h) (Or.inl ⟨by rfl, ?_⟩) (by assumption) ?_
              rotate_left
              · (intro w hSw; (try dsimp only at hSw); go_simp; try with_reducible rfl)
              try simp only [Act.put, List.setIfInBounds_toArray, List.set_cons_zero, List.set_cons_succ]
              refine wpAnyH_take (i := 10) (oi := ⟨some 84, _, _, _, _, _⟩) (v := ?_) rfl (by kernel_rfl) (by kernel_rfl) (by kernel_rfl) (fun _ _ _ h => h) (Or.inl ⟨by rfl, ?_⟩) (by assumption) ?_
              rotate_left
              · (intro w hSw; (try dsimp only at hSw); go_simp; try with_reducible rfl)
              try simp only [Act.put, List.setIfInBounds_toArray, List.set_cons_zero, List.set_cons_succ]
              refine wpAnyH_ready (rs := [0, 6]) (by kernel_rfl) (by simp) ?_
              refine AllReadyH.cons (o := ⟨some 74, _, _, _, _, _⟩) rfl (fun K hK => ?_) (AllReadyH.cons (o := ⟨some 80, _, _, _, _, _⟩) rfl (fun K hK => ?_) AllReadyH.nil)
              · go_simp
                refine hK.out _ _ ?_ (fun hHeldX => ?_)
                · exact ((hBc.cell (p := ⟨b, off + k, none⟩) q0).trans hxc)
                clear hK K hHeld
                rename _ => hHeld
                try simp only [Act.put, List.setIfInBounds_toArray, List.set_cons_zero, List.set_cons_succ]
                refine wpAnyH_ready (rs := [5, 6]) (by kernel_rfl) (by simp) ?_
                refine AllReadyH.cons (o := ⟨some 79, _, _, _, _, _⟩) rfl (fun K hK => ?_) (AllReadyH.cons (o := ⟨some 80, _, _, _, _, _⟩) rfl (fun K hK => ?_) AllReadyH.nil)
                · go_simp
                  refine (map_Drop (.agg #[.slice sa sn sc]) E key _ (SC.out.m.below hBc) (by omega)).mono ?_
                  rintro e w2 ⟨r, rfl, hr, hBx⟩
                  obtain ⟨a2, n2, d2, rfl⟩ := hr.form
                  have hBc := below_step hBc hBx
                  have c8 := (hBc.cell (p := ⟨w1.heap.size + 1, 0, none⟩) q8).trans c8
                  have c9 := (hBc.cell (p := ⟨w1.heap.size + 1, 1, none⟩) q8).trans c9
                  go_wp2_with fail
                  refine hK.out _ _ ?_ (fun hHeldX => ?_)
                  · exact ((hBc.cell (p := ⟨b, off + k, none⟩) q0).trans hxc)
                  clear hK K hHeld
                  rename _ => hHeld
                  try simp only [Act.put, List.setIfInBounds_toArray, List.set_cons_zero, List.set_cons_succ]
                  refine wpAnyH_ready (rs := [6]) (by kernel_rfl) (by simp) ?_
                  refine AllReadyH.cons (o := ⟨some 80, _, _, _, _, _⟩) rfl (fun K hK => ?_) AllReadyH.nil
                  go_simp
                  refine hK.out _ _ ?_ (fun hHeldX => ?_)
                  · exact ((hBc.cell (p := ⟨b, off + k, none⟩) q0).trans hxc)
                  clear hK K hHeld
                  rename _ => hHeld
                  try simp only [Act.put, List.setIfInBounds_toArray, List.set_cons_zero, List.set_cons_succ]
                  refine wpAnyH_ready (rs := [11]) (by kernel_rfl) (by simp) ?_
                  refine AllReadyH.cons (o := ⟨some 85, _, _, _, _, _⟩) rfl (fun K hK => ?_) AllReadyH.nil
                  go_simp
                  refine (ref_Drop (.agg #[.slice ka kn kc, .slice xa xn xc]) E key _ (SC.out.x.below hBc) (by omega)).mono ?_
                  rintro e w3 ⟨r', rfl, hr', hBx⟩
                  obtain ⟨k2, kn2, kc2, x2, xn2, xc2, rfl⟩ := hr'.form
                  have hBc := below_step hBc hBx
                  have hr := hr.below hBx
                  have S3 := Lib.hid (SC.out.next hBc)
                  have c7 := cell1 S3.out.box7
                  have f7 := frozen1 S3.out.box7 0
                  go_wp2_with fail
                  refine hK.out _ _ ?_ (fun hHeldX => ?_)
                  · exact ((hBc.cell (p := ⟨b, off + k, none⟩) q0).trans hxc)
                  clear hK K hHeld
                  rename _ => hHeld
                  try simp only [Act.put, List.setIfInBounds_toArray, List.set_cons_zero, List.set_cons_succ]
                  refine wpAnyH_ready (rs := [12]) (by kernel_rfl) (by simp) ?_
                  refine AllReadyH.cons (o := ⟨none, _, _, _, _, _⟩) rfl (fun K hK => ?_) AllReadyH.nil
                  go_simp
                  refine hK.out _ _ ?_ (fun hHeldX => ?_)
                  · exact (World.cell?_of_block (w := w3) (a := ⟨b, off + k, none⟩) (Below.heap_setCell _ ⟨w1.heap.size, 0, none⟩ _ _ (fun e => hb7 e))).trans ((hBc.cell (p := ⟨b, off + k, none⟩) q0).trans hxc)
                  clear hK K hHeld
                  rename _ => hHeld
                  try simp only [Act.put, List.setIfInBounds_toArray, List.set_cons_zero, List.set_cons_succ]
                  refine wpAnyH_ready (rs := [13]) (by kernel_rfl) (by simp) ?_
                  refine AllReadyH.cons (o := ⟨none, _, _, _, _, _⟩) rfl (fun K hK => ?_) AllReadyH.nil
                  have e8 : (w3.setCell ⟨w1.heap.size, 0, none⟩ (.slice a2 n2 d2)).heap[w1.heap.size + 1]? = some (.cells #[.slice ka kn kc, .slice xa xn xc] 41 (0, 0)) := (Below.heap_setCell _ _ _ _ (fun e => by simp at e)).trans S3.out.box8
                  have d8 := cell2 e8
                  have d9 := cell2' e8
                  have f8 := frozen1 e8 0
                  have f9 := frozen1 e8 1
                  clear e8
                  go_simp
                  refine hK.out _ _ ?_ (fun hHeldX => ?_)
                  · exact (World.cell?_of_block (a := ⟨b, off + k, none⟩) (Below.heap_setCell _ ⟨w1.heap.size + 1, 1, none⟩ _ _ (fun e => hb8 e))).trans ((World.cell?_of_block (a := ⟨b, off + k, none⟩) (Below.heap_setCell _ ⟨w1.heap.size + 1, 0, none⟩ _ _ (fun e => hb8 e))).trans ((World.cell?_of_block (w := w3) (a := ⟨b, off + k, none⟩) (Below.heap_setCell _ ⟨w1.heap.size, 0, none⟩ _ _ (fun e => hb7 e))).trans ((hBc.cell (p := ⟨b, off + k, none⟩) q0).trans hxc)))
                  clear hK K hHeld
                  rename _ => hHeld
                  try simp only [Act.put, List.setIfInBounds_toArray, List.set_cons_zero, List.set_cons_succ]
                  refine wpAnyH_done (by kernel_rfl) ?_ _
                  refine NoPanic.normal ?_
                  go_wp2_with fail
                  go_meet
                  case rel => exact ⟨dropE key E, _, _, _, _, _, _, _, _, _, by have := dropE_length key E; omega, fun p hp => HK.out p ((List.mem_filter.1 hp).1), puts S3.out (by omega) (by omega) ((hBc.block p10 hl12).trans WS.out.b10) ((hBc.block p11 hl13).trans WS.out.b11) hr hr'⟩
                · go_simp
                  refine hK.out _ _ ?_ (fun hHeldX => ?_)
                  · exact ((hBc.cell (p := ⟨b, off + k, none⟩) q0).trans hxc)
                  clear hK K hHeld
                  rename _ => hHeld
                  try simp only [Act.put, List.setIfInBounds_toArray, List.set_cons_zero, List.set_cons_succ]
                  refine wpAnyH_ready (rs := [5]) (by kernel_rfl) (by simp) ?_
                  refine AllReadyH.cons (o := ⟨some 79, _, _, _, _, _⟩) rfl (fun K hK => ?_) AllReadyH.nil
                  go_simp
                  refine (map_Drop (.agg #[.slice sa sn sc]) E key _ (SC.out.m.below hBc) (by omega)).mono ?_
                  rintro e w2 ⟨r, rfl, hr, hBx⟩
                  obtain ⟨a2, n2, d2, rfl⟩ := hr.form
                  have hBc := below_step hBc hBx
                  have c8 := (hBc.cell (p := ⟨w1.heap.size + 1, 0, none⟩) q8).trans c8
                  have c9 := (hBc.cell (p := ⟨w1.heap.size + 1, 1, none⟩) q8).trans c9
                  go_wp2_with fail
                  refine hK.out _ _ ?_ (fun hHeldX => ?_)
                  · exact ((hBc.cell (p := ⟨b, off + k, none⟩) q0).trans hxc)
                  clear hK K hHeld
                  rename _ => hHeld
                  try simp only [Act.put, List.setIfInBounds_toArray, List.set_cons_zero, List.set_cons_succ]
                  refine wpAnyH_ready (rs := [11]) (by kernel_rfl) (by simp) ?_
                  refine AllReadyH.cons (o := ⟨some 85, _, _, _, _, _⟩) rfl (fun K hK => ?_) AllReadyH.nil
                  go_simp
                  refine (ref_Drop (.agg #[.slice ka kn kc, .slice xa xn xc]) E key _ (SC.out.x.below hBc) (by omega)).mono ?_
                  rintro e w3 ⟨r', rfl, hr', hBx⟩
                  obtain ⟨k2, kn2, kc2, x2, xn2, xc2, rfl⟩ := hr'.form
                  have hBc := below_step hBc hBx
                  have hr := hr.below hBx
                  have S3 := Lib.hid (SC.out.next hBc)
                  have c7 := cell1 S3.out.box7
                  have f7 := frozen1 S3.out.box7 0
                  go_wp2_with fail
                  refine hK.out _ _ ?_ (fun hHeldX => ?_)
                  · exact ((hBc.cell (p := ⟨b, off + k, none⟩) q0).trans hxc)
                  clear hK K hHeld
                  rename _ => hHeld
                  try simp only [Act.put, List.setIfInBounds_toArray, List.set_cons_zero, List.set_cons_succ]
                  refine wpAnyH_ready (rs := [12]) (by kernel_rfl) (by simp) ?_
                  refine AllReadyH.cons (o := ⟨none, _, _, _, _, _⟩) rfl (fun K hK => ?_) AllReadyH.nil
                  go_simp
                  refine hK.out _ _ ?_ (fun hHeldX => ?_)
                  · exact (World.cell?_of_block (w := w3) (a := ⟨b, off + k, none⟩) (Below.heap_setCell _ ⟨w1.heap.size, 0, none⟩ _ _ (fun e => hb7 e))).trans ((hBc.cell (p := ⟨b, off + k, none⟩) q0).trans hxc)
                  clear hK K hHeld
                  rename _ => hHeld
                  try simp only [Act.put, List.setIfInBounds_toArray, List.set_cons_zero, List.set_cons_succ]
                  refine wpAnyH_ready (rs := [13]) (by kernel_rfl) (by simp) ?_
                  refine AllReadyH.cons (o := ⟨none, _, _, _, _, _⟩) rfl (fun K hK => ?_) AllReadyH.nil
                  have e8 : (w3.setCell ⟨w1.heap.size, 0, none⟩ (.slice a2 n2 d2)).heap[w1.heap.size + 1]? = some (.cells #[.slice ka kn kc, .slice xa xn xc] 41 (0, 0)) := (Below.heap_setCell _ _ _ _ (fun e => by simp at e)).trans S3.out.box8
                  have d8 := cell2 e8
                  have d9 := cell2' e8
                  have f8 := frozen1 e8 0
                  have f9 := frozen1 e8 1
                  clear e8
                  go_simp
                  refine hK.out _ _ ?_ (fun hHeldX => ?_)
                  · exact (World.cell?_of_block (a := ⟨b, off + k, none⟩) (Below.heap_setCell _ ⟨w1.heap.size + 1, 1, none⟩ _ _ (fun e => hb8 e))).trans ((World.cell?_of_block (a := ⟨b, off + k, none⟩) (Below.heap_setCell _ ⟨w1.heap.size + 1, 0, none⟩ _ _ (fun e => hb8 e))).trans ((World.cell?_of_block (w := w3) (a := ⟨b, off + k, none⟩) (Below.heap_setCell _ ⟨w1.heap.size, 0, none⟩ _ _ (fun e => hb7 e))).trans ((hBc.cell (p := ⟨b, off + k, none⟩) q0).trans hxc)))
                  clear hK K hHeld
                  rename _ => hHeld
                  try simp only [Act.put, List.setIfInBounds_toArray, List.set_cons_zero, List.set_cons_succ]
                  refine wpAnyH_done (by kernel_rfl) ?_ _
                  refine NoPanic.normal ?_
                  go_wp2_with fail
                  go_meet
                  case rel => exact ⟨dropE key E, _, _, _, _, _, _, _, _, _, by have := dropE_length key E; omega, fun p hp => HK.out p ((List.mem_filter.1 hp).1), puts S3.out (by omega) (by omega) ((hBc.block p10 hl12).trans WS.out.b10) ((hBc.block p11 hl13).trans WS.out.b11) hr hr'⟩
              · go_simp
                refine hK.out _ _ ?_ (fun hHeldX => ?_)
                · exact ((hBc.cell (p := ⟨b, off + k, none⟩) q0).trans hxc)
                clear hK K hHeld
                rename _ => hHeld
                try simp only [Act.put, List.setIfInBounds_toArray, List.set_cons_zero, List.set_cons_succ]
                refine wpAnyH_ready (rs := [0]) (by kernel_rfl) (by simp) ?_
                refine AllReadyH.cons (o := ⟨some 74, _, _, _, _, _⟩) rfl (fun K hK => ?_) AllReadyH.nil
                go_simp
                refine hK.out _ _ ?_ (fun hHeldX => ?_)
                · exact ((hBc.cell (p := ⟨b, off + k, none⟩) q0).trans hxc)
                clear hK K hHeld
                rename _ => hHeld
                try simp only [Act.put, List.setIfInBounds_toArray, List.set_cons_zero, List.set_cons_succ]
                refine wpAnyH_ready (rs := [5]) (by kernel_rfl) (by simp) ?_
                refine AllReadyH.cons (o := ⟨some 79, _, _, _, _, _⟩) rfl (fun K hK => ?_) AllReadyH.nil
                go_simp
                refine (map_Drop (.agg #[.slice sa sn sc]) E key _ (SC.out.m.below hBc) (by omega)).mono ?_
                rintro e w2 ⟨r, rfl, hr, hBx⟩
                obtain ⟨a2, n2, d2, rfl⟩ := hr.form
                have hBc := below_step hBc hBx
                have c8 := (hBc.cell (p := ⟨w1.heap.size + 1, 0, none⟩) q8).trans c8
                have c9 := (hBc.cell (p := ⟨w1.heap.size + 1, 1, none⟩) q8).trans c9
                go_wp2_with fail
                refine hK.out _ _ ?_ (fun hHeldX => ?_)
                · exact ((hBc.cell (p := ⟨b, off + k, none⟩) q0).trans hxc)
                clear hK K hHeld
                rename _ => hHeld
                try simp only [Act.put, List.setIfInBounds_toArray, List.set_cons_zero, List.set_cons_succ]
                refine wpAnyH_ready (rs := [11]) (by kernel_rfl) (by simp) ?_
                refine AllReadyH.cons (o := ⟨some 85, _, _, _, _, _⟩) rfl (fun K hK => ?_) AllReadyH.nil
                go_simp
                refine (ref_Drop (.agg #[.slice ka kn kc, .slice xa xn xc]) E key _ (SC.out.x.below hBc) (by omega)).mono ?_
                rintro e w3 ⟨r', rfl, hr', hBx⟩
                obtain ⟨k2, kn2, kc2, x2, xn2, xc2, rfl⟩ := hr'.form
                have hBc := below_step hBc hBx
                have hr := hr.below hBx
                have S3 := Lib.hid (SC.out.next hBc)
                have c7 := cell1 S3.out.box7
                have f7 := frozen1 S3.out.box7 0
                go_wp2_with fail
                refine hK.out _ _ ?_ (fun hHeldX => ?_)
                · exact ((hBc.cell (p := ⟨b, off + k, none⟩) q0).trans hxc)
                clear hK K hHeld
                rename _ => hHeld
                try simp only [Act.put, List.setIfInBounds_toArray, List.set_cons_zero, List.set_cons_succ]
                refine wpAnyH_ready (rs := [12]) (by kernel_rfl) (by simp) ?_
                refine AllReadyH.cons (o := ⟨none, _, _, _, _, _⟩) rfl (fun K hK => ?_) AllReadyH.nil
                go_simp
                refine hK.out _ _ ?_ (fun hHeldX => ?_)
                · exact (World.cell?_of_block (w := w3) (a := ⟨b, off + k, none⟩) (Below.heap_setCell _ ⟨w1.heap.size, 0, none⟩ _ _ (fun e => hb7 e))).trans ((hBc.cell (p := ⟨b, off + k, none⟩) q0).trans hxc)
                clear hK K hHeld
                rename _ => hHeld
                try simp only [Act.put, List.setIfInBounds_toArray, List.set_cons_zero, List.set_cons_succ]
                refine wpAnyH_ready (rs := [13]) (by kernel_rfl) (by simp) ?_
                refine AllReadyH.cons (o := ⟨none, _, _, _, _, _⟩) rfl (fun K hK => ?_) AllReadyH.nil
                have e8 : (w3.setCell ⟨w1.heap.size, 0, none⟩ (.slice a2 n2 d2)).heap[w1.heap.size + 1]? = some (.cells #[.slice ka kn kc, .slice xa xn xc] 41 (0, 0)) := (Below.heap_setCell _ _ _ _ (fun e => by simp at e)).trans S3.out.box8
                have d8 := cell2 e8
                have d9 := cell2' e8
                have f8 := frozen1 e8 0
                have f9 := frozen1 e8 1
                clear e8
                go_simp
                refine hK.out _ _ ?_ (fun hHeldX => ?_)
                · exact (World.cell?_of_block (a := ⟨b, off + k, none⟩) (Below.heap_setCell _ ⟨w1.heap.size + 1, 1, none⟩ _ _ (fun e => hb8 e))).trans ((World.cell?_of_block (a := ⟨b, off + k, none⟩) (Below.heap_setCell _ ⟨w1.heap.size + 1, 0, none⟩ _ _ (fun e => hb8 e))).trans ((World.cell?_of_block (w := w3) (a := ⟨b, off + k, none⟩) (Below.heap_setCell _ ⟨w1.heap.size, 0, none⟩ _ _ (fun e => hb7 e))).trans ((hBc.cell (p := ⟨b, off + k, none⟩) q0).trans hxc)))
                clear hK K hHeld
                rename _ => hHeld
                try simp only [Act.put, List.setIfInBounds_toArray, List.set_cons_zero, List.set_cons_succ]
                refine wpAnyH_done (by kernel_rfl) ?_ _
                refine NoPanic.normal ?_
                go_wp2_with fail
                go_meet
                case rel => exact ⟨dropE key E, _, _, _, _, _, _, _, _, _, by have := dropE_length key E; omega, fun p hp => HK.out p ((List.mem_filter.1 hp).1), puts S3.out (by omega) (by omega) ((hBc.block p10 hl12).trans WS.out.b10) ((hBc.block p11 hl13).trans WS.out.b11) hr hr'⟩
            · go_wp2_with fail
              refine wp_region_noPanic ?_
              refine wp_region_held_drew (S := (fun w' => w'.cell? ⟨b, off + k, none⟩ = some (keyV key) ∧ w'.cell? ⟨vb, voff + k, none⟩ = some (numV x))) (by kernel_rfl) ?_ (fun hHeld => ?_)
              · exact ⟨((hBc.cell (p := ⟨b, off + k, none⟩) q0).trans hxc), ((hBc.cell (p := ⟨vb, voff + k, none⟩) q1).trans hvc)⟩
              refine wpAnyH_take (i := 1) (oi := ⟨some 55, _, _, _, _, _⟩) (v := ?_) rfl (by kernel_rfl) (by kernel_rfl) (by kernel_rfl) (fun _ _ _ h => h) (Or.inl ⟨by rfl, ?_⟩) (by assumption) ?_
              rotate_left
              · (intro w hSw; (try dsimp only at hSw); go_simp; try with_reducible rfl)
              try simp only [Act.put, List.setIfInBounds_toArray, List.set_cons_zero, List.set_cons_succ]
              refine wpAnyH_take (i := 2) (oi := ⟨some 56, _, _, _, _, _⟩) (v := ?_) rfl (by kernel_rfl) (by kernel_rfl) (by kernel_rfl) (fun _ _ _ h => h) (Or.inl ⟨by rfl, ?_⟩) (by assumption) ?_
              rotate_left
              · (intro w hSw; (try dsimp only at hSw); go_simp; try with_reducible rfl)
              try simp only [Act.put, List.setIfInBounds_toArray, List.set_cons_zero, List.set_cons_succ]
              refine wpAnyH_take (i := 3) (oi := ⟨some 57, _, _, _, _, _⟩) (v := ?_) rfl (by kernel_rfl) (by kernel_rfl) (by kernel_rfl) (fun _ _ _ h => h) (Or.inl ⟨by rfl, ?_⟩) (by assumption) ?_
              rotate_left
              · (intro w hSw; (try dsimp only at hSw); go_simp; try with_reducible rfl)
              try simp only [Act.put, List.setIfInBounds_toArray, List.set_cons_zero, List.set_cons_succ]
              refine wpAnyH_take (i := 4) (oi := ⟨some 58, _, _, _, _, _⟩) (v := ?_) rfl (by kernel_rfl) (by kernel_rfl) (by kernel_rfl) (fun _ _ _ h => h) (Or.inl ⟨by rfl, ?_⟩) (by assumption) ?_
              rotate_left
              · (intro w hSw; (try dsimp only at hSw); go_simp; try with_reducible rfl)
              try simp only [Act.put, List.setIfInBounds_toArray, List.set_cons_zero, List.set_cons_succ]
              refine wpAnyH_take (i := 5) (oi := ⟨some 59, _, _, _, _, _⟩) (v := ?_) rfl (by kernel_rfl) (by kernel_rfl) (by kernel_rfl) (fun _ _ _ h => h) (Or.inl ⟨by rfl, ?_⟩) (by assumption) ?_
              rotate_left
              · (intro w hSw; (try dsimp only at hSw); go_simp; try with_reducible rfl)
              try simp only [Act.put, List.setIfInBounds_toArray, List.set_cons_zero, List.set_cons_succ]
              refine wpAnyH_take (i := 6) (oi := ⟨some 60, _, _, _, _, _⟩) (v := ?_) rfl (by kernel_rfl) (by kernel_rfl) (by kernel_rfl) (fun _ _ _ h => h) (Or.inl ⟨by rfl, ?_⟩) (by assumption) ?_
              rotate_left
              · (intro w hSw; (try dsimp only at hSw); go_simp; try with_reducible rfl)
              try simp only [Act.put, List.setIfInBounds_toArray, List.set_cons_zero, List.set_cons_succ]
              refine wpAnyH_take (i := 7) (oi := ⟨some 61, _, _, _, _, _⟩) (v := ?_) rfl (by kernel_rfl) (by kernel_rfl) (by kernel_rfl) (fun _ _ _ h => h) (Or.inl ⟨by rfl, ?_⟩) (by assumption) ?_
              rotate_left
              · (intro w hSw; (try dsimp only at hSw); go_simp; try with_reducible rfl)
              try simp only [Act.put, List.setIfInBounds_toArray, List.set_cons_zero, List.set_cons_succ]
              refine wpAnyH_take (i := 8) (oi := ⟨some 62, _, _, _, _, _⟩) (v := ?_) rfl (by kernel_rfl) (by kernel_rfl) (by kernel_rfl) (fun _ _ _ h => h) (Or.inl ⟨by rfl, ?_⟩) (by assumption) ?_
              rotate_left
              · (intro w hSw; (try dsimp only at hSw); go_simp; try with_reducible rfl)
              try simp only [Act.put, List.setIfInBounds_toArray, List.set_cons_zero, List.set_cons_succ]
              refine wpAnyH_take (i := 11) (oi := ⟨some 65, _, _, _, _, _⟩) (v := ?_) rfl (by kernel_rfl) (by kernel_rfl) (by kernel_rfl) (fun _ _ _ h => h) (Or.inl ⟨by rfl, ?_⟩) (by assumption) ?_
              rotate_left
              · (intro w hSw; (try dsimp only at hSw); go_simp; try with_reducible rfl)
              try simp only [Act.put, List.setIfInBounds_toArray, List.set_cons_zero, List.set_cons_succ]
              refine wpAnyH_take (i := 12) (oi := ⟨some 66, _, _, _, _, _⟩) (v := ?_) rfl (by kernel_rfl) (by kernel_rfl) (by kernel_rfl) (fun _ _ _ h => h) (Or.inl ⟨by rfl, ?_⟩) (by assumption) ?_
              rotate_left
              · (intro w hSw; (try dsimp only at hSw); go_simp; try with_reducible rfl)
              try simp only [Act.put, List.setIfInBounds_toArray, List.set_cons_zero, List.set_cons_succ]
              refine wpAnyH_take (i := 13) (oi := ⟨some 67, _, _, _, _, _⟩) (v := ?_) rfl (by kernel_rfl) (by kernel_rfl) (by kernel_rfl) (fun _ _ _ h => h) (Or.inl ⟨by rfl, ?_⟩) (by assumption) ?_
              rotate_left
              · (intro w hSw; (try dsimp only at hSw); go_simp; try with_reducible rfl)
              try simp only [Act.put, List.setIfInBounds_toArray, List.set_cons_zero, List.set_cons_succ]
              refine wpAnyH_take (i := 14) (oi := ⟨some 68, _, _, _, _, _⟩) (v := ?_) rfl (by kernel_rfl) (by kernel_rfl) (by kernel_rfl) (fun _ _ _ h => h) (Or.inl ⟨by rfl, ?_⟩) (by assumption) ?_
              rotate_left
              · (intro w hSw; (try dsimp only at hSw); go_simp; try with_reducible rfl)
              try simp only [Act.put, List.setIfInBounds_toArray, List.set_cons_zero, List.set_cons_succ]
              refine wpAnyH_take (i := 15) (oi := ⟨some 69, _, _, _, _, _⟩) (v := ?_) rfl (by kernel_rfl) (by kernel_rfl) (by kernel_rfl) (fun _ _ _ h => h) (Or.inl ⟨by rfl, ?_⟩) (by assumption) ?_
              rotate_left
              · (intro w hSw; (try dsimp only at hSw); go_simp; try with_reducible rfl)
              try simp only [Act.put, List.setIfInBounds_toArray, List.set_cons_zero, List.set_cons_succ]
              refine wpAnyH_take (i := 16) (oi := ⟨some 70, _, _, _, _, _⟩) (v := ?_) rfl (by kernel_rfl) (by kernel_rfl) (by kernel_rfl) (fun _ _ _ h => h) (Or.inl ⟨by rfl, ?_⟩) (by assumption) ?_
              rotate_left
              · (intro w hSw; (try dsimp only at hSw); go_simp; try with_reducible rfl)
              try simp only [Act.put, List.setIfInBounds_toArray, List.set_cons_zero, List.set_cons_succ]
              refine wpAnyH_take (i := 17) (oi := ⟨some 71, _, _, _, _, _⟩) (v := ?_) rfl (by kernel_rfl) (by kernel_rfl) (by kernel_rfl) (fun _ _ _ h => h) (Or.inl ⟨by rfl, ?_⟩) (by assumption) ?_
              rotate_left
              · (intro w hSw; (try dsimp only at hSw); go_simp; try with_reducible rfl)
              try simp only [Act.put, List.setIfInBounds_toArray, List.set_cons_zero, List.set_cons_succ]
              refine wpAnyH_take (i := 18) (oi := ⟨some 72, _, _, _, _, _⟩) (v := ?_) rfl (by kernel_rfl) (by kernel_rfl) (by kernel_rfl) (fun _ _ _ h => h) (Or.inl ⟨by rfl, ?_⟩) (by assumption) ?_
              rotate_left
              · (intro w hSw; (try dsimp only at hSw); go_simp; try with_reducible rfl)
              try simp only [Act.put, List.setIfInBounds_toArray, List.set_cons_zero, List.set_cons_succ]
              refine wpAnyH_ready (rs := [0, 10]) (by kernel_rfl) (by simp) ?_
              refine AllReadyH.cons (o := ⟨some 54, _, _, _, _, _⟩) rfl (fun K hK => ?_) (AllReadyH.cons (o := ⟨some 64, _, _, _, _, _⟩) rfl (fun K hK => ?_) AllReadyH.nil)
              · go_simp
                refine hK.out _ _ ?_ (fun hHeldX => ?_)
                · exact ⟨((hBc.cell (p := ⟨b, off + k, none⟩) q0).trans hxc), ((hBc.cell (p := ⟨vb, voff + k, none⟩) q1).trans hvc)⟩
                clear hK K hHeld
                rename _ => hHeld
                try simp only [Act.put, List.setIfInBounds_toArray, List.set_cons_zero, List.set_cons_succ]
                refine wpAnyH_ready (rs := [9, 10]) (by kernel_rfl) (by simp) ?_
                refine AllReadyH.cons (o := ⟨some 63, _, _, _, _, _⟩) rfl (fun K hK => ?_) (AllReadyH.cons (o := ⟨some 64, _, _, _, _, _⟩) rfl (fun K hK => ?_) AllReadyH.nil)
                · go_simp
                  refine (map_Put (.agg #[.slice sa sn sc]) E key x _ (SC.out.m.below hBc) (by omega)).mono ?_
                  rintro e w2 ⟨r, rfl, hr, hBx⟩
                  obtain ⟨a2, n2, d2, rfl⟩ := hr.form
                  have hBc := below_step hBc hBx
                  have c8 := (hBc.cell (p := ⟨w1.heap.size + 1, 0, none⟩) q8).trans c8
                  have c9 := (hBc.cell (p := ⟨w1.heap.size + 1, 1, none⟩) q8).trans c9
                  go_wp2_with fail
                  refine hK.out _ _ ?_ (fun hHeldX => ?_)
                  · exact ⟨((hBc.cell (p := ⟨b, off + k, none⟩) q0).trans hxc), ((hBc.cell (p := ⟨vb, voff + k, none⟩) q1).trans hvc)⟩
                  clear hK K hHeld
                  rename _ => hHeld
                  try simp only [Act.put, List.setIfInBounds_toArray, List.set_cons_zero, List.set_cons_succ]
                  refine wpAnyH_ready (rs := [10]) (by kernel_rfl) (by simp) ?_
                  refine AllReadyH.cons (o := ⟨some 64, _, _, _, _, _⟩) rfl (fun K hK => ?_) AllReadyH.nil
                  go_simp
                  refine hK.out _ _ ?_ (fun hHeldX => ?_)
                  · exact ⟨((hBc.cell (p := ⟨b, off + k, none⟩) q0).trans hxc), ((hBc.cell (p := ⟨vb, voff + k, none⟩) q1).trans hvc)⟩
                  clear hK K hHeld
                  rename _ => hHeld
                  try simp only [Act.put, List.setIfInBounds_toArray, List.set_cons_zero, List.set_cons_succ]
                  refine wpAnyH_ready (rs := [19]) (by kernel_rfl) (by simp) ?_
                  refine AllReadyH.cons (o := ⟨some 73, _, _, _, _, _⟩) rfl (fun K hK => ?_) AllReadyH.nil
                  go_simp
                  refine (ref_Put (.agg #[.slice ka kn kc, .slice xa xn xc]) E key x _ (SC.out.x.below hBc) (by omega) (fun p hp => Nat.le_trans (HK.out p hp) (by omega))).mono ?_
                  rintro e w3 ⟨r', rfl, hr', hBx⟩
                  obtain ⟨k2, kn2, kc2, x2, xn2, xc2, rfl⟩ := hr'.form
                  have hBc := below_step hBc hBx
                  have hr := hr.below hBx
                  have S3 := Lib.hid (SC.out.next hBc)
                  have c7 := cell1 S3.out.box7
                  have f7 := frozen1 S3.out.box7 0
                  go_wp2_with fail
                  refine hK.out _ _ ?_ (fun hHeldX => ?_)
                  · exact ⟨((hBc.cell (p := ⟨b, off + k, none⟩) q0).trans hxc), ((hBc.cell (p := ⟨vb, voff + k, none⟩) q1).trans hvc)⟩
                  clear hK K hHeld
                  rename _ => hHeld
                  try simp only [Act.put, List.setIfInBounds_toArray, List.set_cons_zero, List.set_cons_succ]
                  refine wpAnyH_ready (rs := [20]) (by kernel_rfl) (by simp) ?_
                  refine AllReadyH.cons (o := ⟨none, _, _, _, _, _⟩) rfl (fun K hK => ?_) AllReadyH.nil
                  go_simp
                  refine hK.out _ _ ?_ (fun hHeldX => ?_)
                  · exact ⟨(World.cell?_of_block (w := w3) (a := ⟨b, off + k, none⟩) (Below.heap_setCell _ ⟨w1.heap.size, 0, none⟩ _ _ (fun e => hb7 e))).trans ((hBc.cell (p := ⟨b, off + k, none⟩) q0).trans hxc), (World.cell?_of_block (w := w3) (a := ⟨vb, voff + k, none⟩) (Below.heap_setCell _ ⟨w1.heap.size, 0, none⟩ _ _ (fun e => hv7 e))).trans ((hBc.cell (p := ⟨vb, voff + k, none⟩) q1).trans hvc)⟩
                  clear hK K hHeld
                  rename _ => hHeld
                  try simp only [Act.put, List.setIfInBounds_toArray, List.set_cons_zero, List.set_cons_succ]
                  refine wpAnyH_ready (rs := [21]) (by kernel_rfl) (by simp) ?_
                  refine AllReadyH.cons (o := ⟨none, _, _, _, _, _⟩) rfl (fun K hK => ?_) AllReadyH.nil
                  have e8 : (w3.setCell ⟨w1.heap.size, 0, none⟩ (.slice a2 n2 d2)).heap[w1.heap.size + 1]? = some (.cells #[.slice ka kn kc, .slice xa xn xc] 41 (0, 0)) := (Below.heap_setCell _ _ _ _ (fun e => by simp at e)).trans S3.out.box8
                  have d8 := cell2 e8
                  have d9 := cell2' e8
                  have f8 := frozen1 e8 0
                  have f9 := frozen1 e8 1
                  clear e8
                  go_simp
                  refine hK.out _ _ ?_ (fun hHeldX => ?_)
                  · exact ⟨(World.cell?_of_block (a := ⟨b, off + k, none⟩) (Below.heap_setCell _ ⟨w1.heap.size + 1, 1, none⟩ _ _ (fun e => hb8 e))).trans ((World.cell?_of_block (a := ⟨b, off + k, none⟩) (Below.heap_setCell _ ⟨w1.heap.size + 1, 0, none⟩ _ _ (fun e => hb8 e))).trans ((World.cell?_of_block (w := w3) (a := ⟨b, off + k, none⟩) (Below.heap_setCell _ ⟨w1.heap.size, 0, none⟩ _ _ (fun e => hb7 e))).trans ((hBc.cell (p := ⟨b, off + k, none⟩) q0).trans hxc))), (World.cell?_of_block (a := ⟨vb, voff + k, none⟩) (Below.heap_setCell _ ⟨w1.heap.size + 1, 1, none⟩ _ _ (fun e => hv8 e))).trans ((World.cell?_of_block (a := ⟨vb, voff + k, none⟩) (Below.heap_setCell _ ⟨w1.heap.size + 1, 0, none⟩ _ _ (fun e => hv8 e))).trans ((World.cell?_of_block (w := w3) (a := ⟨vb, voff + k, none⟩) (Below.heap_setCell _ ⟨w1.heap.size, 0, none⟩ _ _ (fun e => hv7 e))).trans ((hBc.cell (p := ⟨vb, voff + k, none⟩) q1).trans hvc)))⟩
                  clear hK K hHeld
                  rename _ => hHeld
                  try simp only [Act.put, List.setIfInBounds_toArray, List.set_cons_zero, List.set_cons_succ]
                  refine wpAnyH_done (by kernel_rfl) ?_ _
                  refine NoPanic.normal ?_
                  go_wp2_with fail
                  go_meet
                  case rel => exact ⟨putE key x E, _, _, _, _, _, _, _, _, _, by have := putE_length key x E; omega, fun p hp => (mem_putE hp).elim (fun h => HK.out p h) (fun h => by rw [h]; omega), puts S3.out (by omega) (by omega) ((hBc.block p10 hl12).trans WS.out.b10) ((hBc.block p11 hl13).trans WS.out.b11) hr hr'⟩
                · go_simp
                  refine hK.out _ _ ?_ (fun hHeldX => ?_)
                  · exact ⟨((hBc.cell (p := ⟨b, off + k, none⟩) q0).trans hxc), ((hBc.cell (p := ⟨vb, voff + k, none⟩) q1).trans hvc)⟩
                  clear hK K hHeld
                  rename _ => hHeld
                  try simp only [Act.put, List.setIfInBounds_toArray, List.set_cons_zero, List.set_cons_succ]
                  refine wpAnyH_ready (rs := [9]) (by kernel_rfl) (by simp) ?_
                  refine AllReadyH.cons (o := ⟨some 63, _, _, _, _, _⟩) rfl (fun K hK => ?_) AllReadyH.nil
                  go_simp
                  refine (map_Put (.agg #[.slice sa sn sc]) E key x _ (SC.out.m.below hBc) (by omega)).mono ?_
                  rintro e w2 ⟨r, rfl, hr, hBx⟩
                  obtain ⟨a2, n2, d2, rfl⟩ := hr.form
                  have hBc := below_step hBc hBx
                  have c8 := (hBc.cell (p := ⟨w1.heap.size + 1, 0, none⟩) q8).trans c8
                  have c9 := (hBc.cell (p := ⟨w1.heap.size + 1, 1, none⟩) q8).trans c9
                  go_wp2_with fail
                  refine hK.out _ _ ?_ (fun hHeldX => ?_)
                  · exact ⟨((hBc.cell (p := ⟨b, off + k, none⟩) q0).trans hxc), ((hBc.cell (p := ⟨vb, voff + k, none⟩) q1).trans hvc)⟩
                  clear hK K hHeld
                  rename _ => hHeld
                  try simp only [Act.put, List.setIfInBounds_toArray, List.set_cons_zero, List.set_cons_succ]
                  refine wpAnyH_ready (rs := [19]) (by kernel_rfl) (by simp) ?_
                  refine AllReadyH.cons (o := ⟨some 73, _, _, _, _, _⟩) rfl (fun K hK => ?_) AllReadyH.nil
                  go_simp
                  refine (ref_Put (.agg #[.slice ka kn kc, .slice xa xn xc]) E key x _ (SC.out.x.below hBc) (by omega) (fun p hp => Nat.le_trans (HK.out p hp) (by omega))).mono ?_
                  rintro e w3 ⟨r', rfl, hr', hBx⟩
                  obtain ⟨k2, kn2, kc2, x2, xn2, xc2, rfl⟩ := hr'.form
                  have hBc := below_step hBc hBx
                  have hr := hr.below hBx
                  have S3 := Lib.hid (SC.out.next hBc)
                  have c7 := cell1 S3.out.box7
                  have f7 := frozen1 S3.out.box7 0
                  go_wp2_with fail
                  refine hK.out _ _ ?_ (fun hHeldX => ?_)
                  · exact ⟨((hBc.cell (p := ⟨b, off + k, none⟩) q0).trans hxc), ((hBc.cell (p := ⟨vb, voff + k, none⟩) q1).trans hvc)⟩
                  clear hK K hHeld
                  rename _ => hHeld
                  try simp only [Act.put, List.setIfInBounds_toArray, List.set_cons_zero, List.set_cons_succ]
                  refine wpAnyH_ready (rs := [20]) (by kernel_rfl) (by simp) ?_
                  refine AllReadyH.cons (o := ⟨none, _, _, _, _, _⟩) rfl (fun K hK => ?_) AllReadyH.nil
                  go_simp
                  refine hK.out _ _ ?_ (fun hHeldX => ?_)
                  · exact ⟨(World.cell?_of_block (w := w3) (a := ⟨b, off + k, none⟩) (Below.heap_setCell _ ⟨w1.heap.size, 0, none⟩ _ _ (fun e => hb7 e))).trans ((hBc.cell (p := ⟨b, off + k, none⟩) q0).trans hxc), (World.cell?_of_block (w := w3) (a := ⟨vb, voff + k, none⟩) (Below.heap_setCell _ ⟨w1.heap.size, 0, none⟩ _ _ (fun e => hv7 e))).trans ((hBc.cell (p := ⟨vb, voff + k, none⟩) q1).trans hvc)⟩
                  clear hK K hHeld
                  rename _ => hHeld
                  try simp only [Act.put, List.setIfInBounds_toArray, List.set_cons_zero, List.set_cons_succ]
                  refine wpAnyH_ready (rs := [21]) (by kernel_rfl) (by simp) ?_
                  refine AllReadyH.cons (o := ⟨none, _, _, _, _, _⟩) rfl (fun K hK => ?_) AllReadyH.nil
                  have e8 : (w3.setCell ⟨w1.heap.size, 0, none⟩ (.slice a2 n2 d2)).heap[w1.heap.size + 1]? = some (.cells #[.slice ka kn kc, .slice xa xn xc] 41 (0, 0)) := (Below.heap_setCell _ _ _ _ (fun e => by simp at e)).trans S3.out.box8
                  have d8 := cell2 e8
                  have d9 := cell2' e8
                  have f8 := frozen1 e8 0
                  have f9 := frozen1 e8 1
                  clear e8
                  go_simp
                  refine hK.out _ _ ?_ (fun hHeldX => ?_)
                  · exact ⟨(World.cell?_of_block (a := ⟨b, off + k, none⟩) (Below.heap_setCell _ ⟨w1.heap.size + 1, 1, none⟩ _ _ (fun e => hb8 e))).trans ((World.cell?_of_block (a := ⟨b, off + k, none⟩) (Below.heap_setCell _ ⟨w1.heap.size + 1, 0, none⟩ _ _ (fun e => hb8 e))).trans ((World.cell?_of_block (w := w3) (a := ⟨b, off + k, none⟩) (Below.heap_setCell _ ⟨w1.heap.size, 0, none⟩ _ _ (fun e => hb7 e))).trans ((hBc.cell (p := ⟨b, off + k, none⟩) q0).trans hxc))), (World.cell?_of_block (a := ⟨vb, voff + k, none⟩) (Below.heap_setCell _ ⟨w1.heap.size + 1, 1, none⟩ _ _ (fun e => hv8 e))).trans ((World.cell?_of_block (a := ⟨vb, voff + k, none⟩) (Below.heap_setCell _ ⟨w1.heap.size + 1, 0, none⟩ _ _ (fun e => hv8 e))).trans ((World.cell?_of_block (w := w3) (a := ⟨vb, voff + k, none⟩) (Below.heap_setCell _ ⟨w1.heap.size, 0, none⟩ _ _ (fun e => hv7 e))).trans ((hBc.cell (p := ⟨vb, voff + k, none⟩) q1).trans hvc)))⟩
                  clear hK K hHeld
                  rename _ => hHeld
                  try simp only [Act.put, List.setIfInBounds_toArray, List.set_cons_zero, List.set_cons_succ]
                  refine wpAnyH_done (by kernel_rfl) ?_ _
                  refine NoPanic.normal ?_
                  go_wp2_with fail
                  go_meet
                  case rel => exact ⟨putE key x E, _, _, _, _, _, _, _, _, _, by have := putE_length key x E; omega, fun p hp => (mem_putE hp).elim (fun h => HK.out p h) (fun h => by rw [h]; omega), puts S3.out (by omega) (by omega) ((hBc.block p10 hl12).trans WS.out.b10) ((hBc.block p11 hl13).trans WS.out.b11) hr hr'⟩
              · go_simp
                refine hK.out _ _ ?_ (fun hHeldX => ?_)
                · exact ⟨((hBc.cell (p := ⟨b, off + k, none⟩) q0).trans hxc), ((hBc.cell (p := ⟨vb, voff + k, none⟩) q1).trans hvc)⟩
                clear hK K hHeld
                rename _ => hHeld
                try simp only [Act.put, List.setIfInBounds_toArray, List.set_cons_zero, List.set_cons_succ]
                refine wpAnyH_ready (rs := [0]) (by kernel_rfl) (by simp) ?_
                refine AllReadyH.cons (o := ⟨some 54, _, _, _, _, _⟩) rfl (fun K hK => ?_) AllReadyH.nil
                go_simp
                refine hK.out _ _ ?_ (fun hHeldX => ?_)
                · exact ⟨((hBc.cell (p := ⟨b, off + k, none⟩) q0).trans hxc), ((hBc.cell (p := ⟨vb, voff + k, none⟩) q1).trans hvc)⟩
                clear hK K hHeld
                rename _ => hHeld
                try simp only [Act.put, List.setIfInBounds_toArray, List.set_cons_zero, List.set_cons_succ]
                refine wpAnyH_ready (rs := [9]) (by kernel_rfl) (by simp) ?_
                refine AllReadyH.cons (o := ⟨some 63, _, _, _, _, _⟩) rfl (fun K hK => ?_) AllReadyH.nil
                go_simp
                refine (map_Put (.agg #[.slice sa sn sc]) E key x _ (SC.out.m.below hBc) (by omega)).mono ?_
                rintro e w2 ⟨r, rfl, hr, hBx⟩
                obtain ⟨a2, n2, d2, rfl⟩ := hr.form
                have hBc := below_step hBc hBx
                have c8 := (hBc.cell (p := ⟨w1.heap.size + 1, 0, none⟩) q8).trans c8
                have c9 := (hBc.cell (p := ⟨w1.heap.size + 1, 1, none⟩) q8).trans c9
                go_wp2_with fail
                refine hK.out _ _ ?_ (fun hHeldX => ?_)
                · exact ⟨((hBc.cell (p := ⟨b, off + k, none⟩) q0).trans hxc), ((hBc.cell (p := ⟨vb, voff + k, none⟩) q1).trans hvc)⟩
                clear hK K hHeld
                rename _ => hHeld
                try simp only [Act.put, List.setIfInBounds_toArray, List.set_cons_zero, List.set_cons_succ]
                refine wpAnyH_ready (rs := [19]) (by kernel_rfl) (by simp) ?_
                refine AllReadyH.cons (o := ⟨some 73, _, _, _, _, _⟩) rfl (fun K hK => ?_) AllReadyH.nil
                go_simp
                refine (ref_Put (.agg #[.slice ka kn kc, .slice xa xn xc]) E key x _ (SC.out.x.below hBc) (by omega) (fun p hp => Nat.le_trans (HK.out p hp) (by omega))).mono ?_
                rintro e w3 ⟨r', rfl, hr', hBx⟩
                obtain ⟨k2, kn2, kc2, x2, xn2, xc2, rfl⟩ := hr'.form
                have hBc := below_step hBc hBx
                have hr := hr.below hBx
                have S3 := Lib.hid (SC.out.next hBc)
                have c7 := cell1 S3.out.box7
                have f7 := frozen1 S3.out.box7 0
                go_wp2_with fail
                refine hK.out _ _ ?_ (fun hHeldX => ?_)
                · exact ⟨((hBc.cell (p := ⟨b, off + k, none⟩) q0).trans hxc), ((hBc.cell (p := ⟨vb, voff + k, none⟩) q1).trans hvc)⟩
                clear hK K hHeld
                rename _ => hHeld
                try simp only [Act.put, List.setIfInBounds_toArray, List.set_cons_zero, List.set_cons_succ]
                refine wpAnyH_ready (rs := [20]) (by kernel_rfl) (by simp) ?_
                refine AllReadyH.cons (o := ⟨none, _, _, _, _, _⟩) rfl (fun K hK => ?_) AllReadyH.nil
                go_simp
                refine hK.out _ _ ?_ (fun hHeldX => ?_)
                · exact ⟨(World.cell?_of_block (w := w3) (a := ⟨b, off + k, none⟩) (Below.heap_setCell _ ⟨w1.heap.size, 0, none⟩ _ _ (fun e => hb7 e))).trans ((hBc.cell (p := ⟨b, off + k, none⟩) q0).trans hxc), (World.cell?_of_block (w := w3) (a := ⟨vb, voff + k, none⟩) (Below.heap_setCell _ ⟨w1.heap.size, 0, none⟩ _ _ (fun e => hv7 e))).trans ((hBc.cell (p := ⟨vb, voff + k, none⟩) q1).trans hvc)⟩
                clear hK K hHeld
                rename _ => hHeld
                try simp only [Act.put, List.setIfInBounds_toArray, List.set_cons_zero, List.set_cons_succ]
                refine wpAnyH_ready (rs := [21]) (by kernel_rfl) (by simp) ?_
                refine AllReadyH.cons (o := ⟨none, _, _, _, _, _⟩) rfl (fun K hK => ?_) AllReadyH.nil
                have e8 : (w3.setCell ⟨w1.heap.size, 0, none⟩ (.slice a2 n2 d2)).heap[w1.heap.size + 1]? = some (.cells #[.slice ka kn kc, .slice xa xn xc] 41 (0, 0)) := (Below.heap_setCell _ _ _ _ (fun e => by simp at e)).trans S3.out.box8
                have d8 := cell2 e8
                have d9 := cell2' e8
                have f8 := frozen1 e8 0
                have f9 := frozen1 e8 1
                clear e8
                go_simp
                refine hK.out _ _ ?_ (fun hHeldX => ?_)
                · exact ⟨(World.cell?_of_block (a := ⟨b, off + k, none⟩) (Below.heap_setCell _ ⟨w1.heap.size + 1, 1, none⟩ _ _ (fun e => hb8 e))).trans ((World.cell?_of_block (a := ⟨b, off + k, none⟩) (Below.heap_setCell _ ⟨w1.heap.size + 1, 0, none⟩ _ _ (fun e => hb8 e))).trans ((World.cell?_of_block (w := w3) (a := ⟨b, off + k, none⟩) (Below.heap_setCell _ ⟨w1.heap.size, 0, none⟩ _ _ (fun e => hb7 e))).trans ((hBc.cell (p := ⟨b, off + k, none⟩) q0).trans hxc))), (World.cell?_of_block (a := ⟨vb, voff + k, none⟩) (Below.heap_setCell _ ⟨w1.heap.size + 1, 1, none⟩ _ _ (fun e => hv8 e))).trans ((World.cell?_of_block (a := ⟨vb, voff + k, none⟩) (Below.heap_setCell _ ⟨w1.heap.size + 1, 0, none⟩ _ _ (fun e => hv8 e))).trans ((World.cell?_of_block (w := w3) (a := ⟨vb, voff + k, none⟩) (Below.heap_setCell _ ⟨w1.heap.size, 0, none⟩ _ _ (fun e => hv7 e))).trans ((hBc.cell (p := ⟨vb, voff + k, none⟩) q1).trans hvc)))⟩
                clear hK K hHeld
                rename _ => hHeld
                try simp only [Act.put, List.setIfInBounds_toArray, List.set_cons_zero, List.set_cons_succ]
                refine wpAnyH_done (by kernel_rfl) ?_ _
                refine NoPanic.normal ?_
                go_wp2_with fail
                go_meet
                case rel => exact ⟨putE key x E, _, _, _, _, _, _, _, _, _, by have := putE_length key x E; omega, fun p hp => (mem_putE hp).elim (fun h => HK.out p h) (fun h => by rw [h]; omega), puts S3.out (by omega) (by omega) ((hBc.block p10 hl12).trans WS.out.b10) ((hBc.block p11 hl13).trans WS.out.b11) hr hr'⟩
          case rest =>
            obtain ⟨E2, sa2, sn2, sc2, ka2, kn2, kc2, xa2, xn2, xc2, hE2, HK2, af⟩ := hcut
            have AF := Lib.hid af
            clear af
            have BF := Lib.hid (B1.out.trans (AF.out.st.below.mono hz1))
            have hxf := (BF.out.cell (p := ⟨b, off + k, none⟩) hb).trans HX0.out
            have c7 := cell1 AF.out.st.box7
            have r7 : w1.heap.size < wc.heap.size := (Array.getElem?_eq_some_iff.1 AF.out.st.box7).1
            have r8 : w1.heap.size + 1 < wc.heap.size := (Array.getElem?_eq_some_iff.1 AF.out.st.box8).1
            have r10 : p10 < wc.heap.size := (Array.getElem?_eq_some_iff.1 AF.out.b10).1
            have r11 : p11 < wc.heap.size := (Array.getElem?_eq_some_iff.1 AF.out.b11).1
            have rb : b < wc.heap.size := by omega
            obtain ⟨gv, go, G1, G2⟩ := gets key E2
            have G1 := Lib.hid G1
            have G2 := Lib.hid G2
            have hBe : Below wc.heap.size wc wc.drew := (Below.refl _ _).drew
            go_wp2_with fail
            refine wp_region_noPanic ?_
            refine wp_region_held_drew (S := (fun w' => w'.cell? ⟨w1.heap.size, 0, none⟩ = some (.slice sa2 sn2 sc2) ∧ w'.cell? ⟨b, off + k, none⟩ = some (keyV key))) (by kernel_rfl) ?_ (fun hHeld => ?_)
            · exact ⟨(hBe.cell (p := ⟨w1.heap.size, 0, none⟩) r7).trans c7, (hBe.cell (p := ⟨b, off + k, none⟩) rb).trans hxf⟩
            refine wpAnyH_take (i := 0) (oi := ⟨some 87, _, _, _, _, _⟩) (v := ?_) rfl (by kernel_rfl) (by kernel_rfl) (by kernel_rfl) (fun _ _ _ h => h) (Or.inl ⟨by rfl, ?_⟩) (by assumption) ?_
            rotate_left
            · (intro w hSw; (try dsimp only at hSw); go_simp; try with_reducible rfl)
            try simp only [Act.put, List.setIfInBounds_toArray, List.set_cons_zero, List.set_cons_succ]
            refine wpAnyH_take (i := 1) (oi := ⟨some 88, _, _, _, _, _⟩) (v := ?_) rfl (by kernel_rfl) (by kernel_rfl) (by kernel_rfl) (fun _ _ _ h => h) (Or.inl ⟨by rfl, ?_⟩) (by assumption) ?_
            rotate_left
            · (intro w hSw; (try dsimp only at hSw); go_simp; try with_reducible rfl)
            try simp only [Act.put, List.setIfInBounds_toArray, List.set_cons_zero, List.set_cons_succ]
            refine wpAnyH_take (i := 2) (oi := ⟨some 89, _, _, _, _, _⟩) (v := ?_) rfl (by kernel_rfl) (by kernel_rfl) (by kernel_rfl) (fun _ _ _ h => h) (Or.inl ⟨by rfl, ?_⟩) (by assumption) ?_
            rotate_left
            · (intro w hSw; (try dsimp only at hSw); go_simp; try with_reducible rfl)
            try simp only [Act.put, List.setIfInBounds_toArray, List.set_cons_zero, List.set_cons_succ]
            refine wpAnyH_take (i := 3) (oi := ⟨some 90, _, _, _, _, _⟩) (v := ?_) rfl (by kernel_rfl) (by kernel_rfl) (by kernel_rfl) (fun _ _ _ h => h) (Or.inl ⟨by rfl, ?_⟩) (by assumption) ?_
            rotate_left
            · (intro w hSw; (try dsimp only at hSw); go_simp; try with_reducible rfl)
            try simp only [Act.put, List.setIfInBounds_toArray, List.set_cons_zero, List.set_cons_succ]
            refine wpAnyH_take (i := 4) (oi := ⟨some 91, _, _, _, _, _⟩) (v := ?_) rfl (by kernel_rfl) (by kernel_rfl) (by kernel_rfl) (fun _ _ _ h => h) (Or.inl ⟨by rfl, ?_⟩) (by assumption) ?_
            rotate_left
            · (intro w hSw; (try dsimp only at hSw); go_simp; try with_reducible rfl)
            try simp only [Act.put, List.setIfInBounds_toArray, List.set_cons_zero, List.set_cons_succ]
            refine wpAnyH_ready (rs := [5]) (by kernel_rfl) (by simp) ?_
            refine AllReadyH.cons (o := ⟨some 92, _, _, _, _, _⟩) rfl (fun K hK => ?_) AllReadyH.nil
            go_simp
            refine (G1.out (.agg #[.slice sa2 sn2 sc2]) _ (AF.out.st.m.below hBe) (by omega)).mono ?_
            rintro e w4 ⟨rfl, hBx⟩
            have hBe := below_step hBe hBx
            go_wp2_with fail
            refine hK.out _ _ ?_ (fun hHeldX => ?_)
            · exact ⟨(hBe.cell (p := ⟨w1.heap.size, 0, none⟩) r7).trans c7, (hBe.cell (p := ⟨b, off + k, none⟩) rb).trans hxf⟩
            clear hK K hHeld
            rename _ => hHeld
            try simp only [Act.put, List.setIfInBounds_toArray, List.set_cons_zero, List.set_cons_succ]
            refine wpAnyH_take (i := 6) (oi := ⟨some 86, _, _, _, _, _⟩) (v := ?_) rfl (by kernel_rfl) (by kernel_rfl) (by kernel_rfl) (fun _ _ _ h => h) (Or.inl ⟨by rfl, ?_⟩) (by assumption) ?_
            rotate_left
            · (intro w hSw; (try dsimp only at hSw); go_simp; try with_reducible rfl)
            try simp only [Act.put, List.setIfInBounds_toArray, List.set_cons_zero, List.set_cons_succ]
            refine wpAnyH_take (i := 7) (oi := ⟨some 93, _, _, _, _, _⟩) (v := ?_) rfl (by kernel_rfl) (by kernel_rfl) (by kernel_rfl) (fun _ _ _ h => h) (Or.inl ⟨by rfl, ?_⟩) (by assumption) ?_
            rotate_left
            · (intro w hSw; (try dsimp only at hSw); go_simp; try with_reducible rfl)
            try simp only [Act.put, List.setIfInBounds_toArray, List.set_cons_zero, List.set_cons_succ]
            refine wpAnyH_take (i := 8) (oi := ⟨some 94, _, _, _, _, _⟩) (v := ?_) rfl (by kernel_rfl) (by kernel_rfl) (by kernel_rfl) (fun _ _ _ h => h) (Or.inl ⟨by rfl, ?_⟩) (by assumption) ?_
            rotate_left
            · (intro w hSw; (try dsimp only at hSw); go_simp; try with_reducible rfl)
            try simp only [Act.put, List.setIfInBounds_toArray, List.set_cons_zero, List.set_cons_succ]
            refine wpAnyH_take (i := 9) (oi := ⟨some 12, _, _, _, _, _⟩) (v := ?_) rfl (by kernel_rfl) (by kernel_rfl) (by kernel_rfl) (fun _ _ _ h => h) (Or.inl ⟨by rfl, ?_⟩) (by assumption) ?_
            rotate_left
            · (intro w hSw; (try dsimp only at hSw); go_simp; try with_reducible rfl)
            try simp only [Act.put, List.setIfInBounds_toArray, List.set_cons_zero, List.set_cons_succ]
            refine wpAnyH_take (i := 10) (oi := ⟨some 13, _, _, _, _, _⟩) (v := ?_) rfl (by kernel_rfl) (by kernel_rfl) (by kernel_rfl) (fun _ _ _ h => h) (Or.inl ⟨by rfl, ?_⟩) (by assumption) ?_
            rotate_left
            · (intro w hSw; (try dsimp only at hSw); go_simp; try with_reducible rfl)
            try simp only [Act.put, List.setIfInBounds_toArray, List.set_cons_zero, List.set_cons_succ]
            refine wpAnyH_done (by kernel_rfl) ?_ _
            refine NoPanic.normal ?_
            have c7 := (hBe.cell (p := ⟨w1.heap.size, 0, none⟩) r7).trans c7
            have hxf := (hBe.cell (p := ⟨b, off + k, none⟩) rb).trans hxf
            have rb : b < w4.heap.size := by have := hBe.size; omega
            have r8' : w1.heap.size + 1 < w4.heap.size := by have := hBe.size; omega
            have c8 := (hBe.cell (p := ⟨w1.heap.size + 1, 0, none⟩) r8).trans (cell2 AF.out.st.box8)
            have c9 := (hBe.cell (p := ⟨w1.heap.size + 1, 1, none⟩) r8).trans (cell2' AF.out.st.box8)
            have hBg : Below w4.heap.size w4 w4.drew := (Below.refl _ _).drew
            clear hHeld
            go_wp2_with fail
            refine wp_region_noPanic ?_
            refine wp_region_held_drew (S := (fun w' => w'.cell? ⟨w1.heap.size + 1, 0, none⟩ = some (.slice ka2 kn2 kc2) ∧ w'.cell? ⟨w1.heap.size + 1, 1, none⟩ = some (.slice xa2 xn2 xc2) ∧ w'.cell? ⟨b, off + k, none⟩ = some (keyV key))) (by kernel_rfl) ?_ (fun hHeld => ?_)
            · exact ⟨(hBg.cell (p := ⟨w1.heap.size + 1, 0, none⟩) r8').trans c8, (hBg.cell (p := ⟨w1.heap.size + 1, 1, none⟩) r8').trans c9, (hBg.cell (p := ⟨b, off + k, none⟩) rb).trans hxf⟩
            refine wpAnyH_take (i := 0) (oi := ⟨some 96, _, _, _, _, _⟩) (v := ?_) rfl (by kernel_rfl) (by kernel_rfl) (by kernel_rfl) (fun _ _ _ h => h) (Or.inl ⟨by rfl, ?_⟩) (by assumption) ?_
            rotate_left
            · (intro w hSw; (try dsimp only at hSw); go_simp; try with_reducible rfl)
            try simp only [Act.put, List.setIfInBounds_toArray, List.set_cons_zero, List.set_cons_succ]
            refine wpAnyH_take (i := 1) (oi := ⟨some 97, _, _, _, _, _⟩) (v := ?_) rfl (by kernel_rfl) (by kernel_rfl) (by kernel_rfl) (fun _ _ _ h => h) (Or.inl ⟨by rfl, ?_⟩) (by assumption) ?_
            rotate_left
            · (intro w hSw; (try dsimp only at hSw); go_simp; try with_reducible rfl)
            try simp only [Act.put, List.setIfInBounds_toArray, List.set_cons_zero, List.set_cons_succ]
            refine wpAnyH_take (i := 2) (oi := ⟨some 98, _, _, _, _, _⟩) (v := ?_) rfl (by kernel_rfl) (by kernel_rfl) (by kernel_rfl) (fun _ _ _ h => h) (Or.inl ⟨by rfl, ?_⟩) (by assumption) ?_
            rotate_left
            · (intro w hSw; (try dsimp only at hSw); go_simp; try with_reducible rfl)
            try simp only [Act.put, List.setIfInBounds_toArray, List.set_cons_zero, List.set_cons_succ]
            refine wpAnyH_take (i := 3) (oi := ⟨some 99, _, _, _, _, _⟩) (v := ?_) rfl (by kernel_rfl) (by kernel_rfl) (by kernel_rfl) (fun _ _ _ h => h) (Or.inl ⟨by rfl, ?_⟩) (by assumption) ?_
            rotate_left
            · (intro w hSw; (try dsimp only at hSw); go_simp; try with_reducible rfl)
            try simp only [Act.put, List.setIfInBounds_toArray, List.set_cons_zero, List.set_cons_succ]
            refine wpAnyH_take (i := 4) (oi := ⟨some 100, _, _, _, _, _⟩) (v := ?_) rfl (by kernel_rfl) (by kernel_rfl) (by kernel_rfl) (fun _ _ _ h => h) (Or.inl ⟨by rfl, ?_⟩) (by assumption) ?_
            rotate_left
            · (intro w hSw; (try dsimp only at hSw); go_simp; try with_reducible rfl)
            try simp only [Act.put, List.setIfInBounds_toArray, List.set_cons_zero, List.set_cons_succ]
            refine wpAnyH_ready (rs := [5]) (by kernel_rfl) (by simp) ?_
            refine AllReadyH.cons (o := ⟨some 101, _, _, _, _, _⟩) rfl (fun K hK => ?_) AllReadyH.nil
            go_simp
            refine (G2.out (.agg #[.slice ka2 kn2 kc2, .slice xa2 xn2 xc2]) _ ((AF.out.st.x.below hBe).below hBg) (by omega)).mono ?_
            rintro e w5 ⟨rfl, hBx⟩
            have hBg := below_step hBg hBx
            go_wp2_with fail
            refine hK.out _ _ ?_ (fun hHeldX => ?_)
            · exact ⟨(hBg.cell (p := ⟨w1.heap.size + 1, 0, none⟩) r8').trans c8, (hBg.cell (p := ⟨w1.heap.size + 1, 1, none⟩) r8').trans c9, (hBg.cell (p := ⟨b, off + k, none⟩) rb).trans hxf⟩
            clear hK K hHeld
            rename _ => hHeld
            try simp only [Act.put, List.setIfInBounds_toArray, List.set_cons_zero, List.set_cons_succ]
            refine wpAnyH_take (i := 6) (oi := ⟨some 95, _, _, _, _, _⟩) (v := ?_) rfl (by kernel_rfl) (by kernel_rfl) (by kernel_rfl) (fun _ _ _ h => h) (Or.inl ⟨by rfl, ?_⟩) (by assumption) ?_
            rotate_left
            · (intro w hSw; (try dsimp only at hSw); go_simp; try with_reducible rfl)
            try simp only [Act.put, List.setIfInBounds_toArray, List.set_cons_zero, List.set_cons_succ]
            refine wpAnyH_take (i := 7) (oi := ⟨some 102, _, _, _, _, _⟩) (v := ?_) rfl (by kernel_rfl) (by kernel_rfl) (by kernel_rfl) (fun _ _ _ h => h) (Or.inl ⟨by rfl, ?_⟩) (by assumption) ?_
            rotate_left
            · (intro w hSw; (try dsimp only at hSw); go_simp; try with_reducible rfl)
            try simp only [Act.put, List.setIfInBounds_toArray, List.set_cons_zero, List.set_cons_succ]
            refine wpAnyH_take (i := 8) (oi := ⟨some 103, _, _, _, _, _⟩) (v := ?_) rfl (by kernel_rfl) (by kernel_rfl) (by kernel_rfl) (fun _ _ _ h => h) (Or.inl ⟨by rfl, ?_⟩) (by assumption) ?_
            rotate_left
            · (intro w hSw; (try dsimp only at hSw); go_simp; try with_reducible rfl)
            try simp only [Act.put, List.setIfInBounds_toArray, List.set_cons_zero, List.set_cons_succ]
            refine wpAnyH_take (i := 9) (oi := ⟨some 14, _, _, _, _, _⟩) (v := ?_) rfl (by kernel_rfl) (by kernel_rfl) (by kernel_rfl) (fun _ _ _ h => h) (Or.inl ⟨by rfl, ?_⟩) (by assumption) ?_
            rotate_left
            · (intro w hSw; (try dsimp only at hSw); go_simp; try with_reducible rfl)
            try simp only [Act.put, List.setIfInBounds_toArray, List.set_cons_zero, List.set_cons_succ]
            refine wpAnyH_take (i := 10) (oi := ⟨some 15, _, _, _, _, _⟩) (v := ?_) rfl (by kernel_rfl) (by kernel_rfl) (by kernel_rfl) (fun _ _ _ h => h) (Or.inl ⟨by rfl, ?_⟩) (by assumption) ?_
            rotate_left
            · (intro w hSw; (try dsimp only at hSw); go_simp; try with_reducible rfl)
            try simp only [Act.put, List.setIfInBounds_toArray, List.set_cons_zero, List.set_cons_succ]
            refine wpAnyH_done (by kernel_rfl) ?_ _
            refine NoPanic.normal ?_
            have hBh := below_step hBe hBg
            have c7 := (hBh.cell (p := ⟨w1.heap.size, 0, none⟩) r7).trans (cell1 AF.out.st.box7)
            have c8 := (hBh.cell (p := ⟨w1.heap.size + 1, 0, none⟩) r8).trans (cell2 AF.out.st.box8)
            have c9 := (hBh.cell (p := ⟨w1.heap.size + 1, 1, none⟩) r8).trans (cell2' AF.out.st.box8)
            clear hHeld hBe hBg
            go_wp2_with fail
            refine (law_same _ _ E2 _ (AF.out.st.m.below hBh) (AF.out.st.x.below hBh) (by omega)).mono ?_
            rintro e w6 ⟨rfl, hBx⟩
            have hBh := below_step hBh hBx
            have d10 := (hBh.cell (p := ⟨p10, 0, none⟩) r10).trans (cell1 AF.out.b10)
            have d11 := (hBh.cell (p := ⟨p11, 0, none⟩) r11).trans (cell2 AF.out.b11)
            have d12 := (hBh.cell (p := ⟨p11, 1, none⟩) r11).trans (cell2' AF.out.b11)
            go_wp2_with fail
            refine (law_same _ _ E _ (AF.out.m.below hBh) (AF.out.x.below hBh) (by omega)).mono ?_
            rintro e w7 ⟨rfl, hBx⟩
            have BH := Lib.hid (below_step hBh hBx)
            clear hBh hBx c7 c8 c9 d10 d11 d12
            go_wp2
            go_roundg (gk - 1)
            case measure => have := HK7.out; omega
            case rel => exact ⟨k + 1, E2, sa2, sn2, sc2, ka2, kn2, kc2, xa2, xn2, xc2, by have := HK7.out; omega, by go_num, hE2, HK2, AF.out.st.next BH.out⟩
    · go_wp2
      go_ret
      exact ⟨rfl, BR.out⟩

theorem maps_early (a va pa : Option Addr) (cap vcap pcap : Nat) (n nv np : Nat) (w : World) (h : 300 < n ∨ (¬ 300 < n ∧ np < n) ∨ (¬ 300 < n ∧ ¬ np < n ∧ nv < n)) :
    Calls Try.prog 4 #[.slice a n cap, .slice va nv vcap, .slice pa np pcap] w fun e w' => e = .returned (.bool true) ∧ Below w.heap.size w w' := by
  rcases h with h1 | ⟨h1, h2⟩ | ⟨h1, h2, h3⟩
  all_goals
    go_enter Try.func4, Try.ntmps4
    go_wp2_with fail
    refine (awake3 _).mono ?_
    rintro e w1 ⟨rfl, hB⟩
    go_wp2
    go_ret
    exact ⟨rfl, hB⟩
theorem keys_list {W : World} {a : Option Addr} {L : List ByteArray} (h : ListIn Value.string W a L) : ListIn keyV W a (L.map fun s => s.data.toList) := fun k x hx => by
  rw [List.getElem?_map, Option.map_eq_some_iff] at hx
  obtain ⟨s, hs, rfl⟩ := hx
  obtain ⟨b, off, ha, hb, hc⟩ := h k s hs
  exact ⟨b, off, ha, hb, hc⟩
theorem maps_any (a va pa : Option Addr) (cap vcap pcap : Nat) (L : List ByteArray) (V : List Int) (Lp : List Bool) (w : World) (h : ListIn Value.string w a L) (hv : ListIn numV w va V) (hp : ListIn Value.bool w pa Lp) :
    Calls Try.prog 4 #[.slice a L.length cap, .slice va V.length vcap, .slice pa Lp.length pcap] w fun e w' => e = .returned (.bool true) ∧ Below w.heap.size w w' := by
  by_cases h1 : 300 < L.length
  · exact maps_early a va pa cap vcap pcap _ _ _ w (.inl h1)
  · by_cases h2 : Lp.length < L.length
    · exact maps_early a va pa cap vcap pcap _ _ _ w (.inr (.inl ⟨h1, h2⟩))
    · by_cases h3 : V.length < L.length
      · exact maps_early a va pa cap vcap pcap _ _ _ w (.inr (.inr ⟨h1, h2, h3⟩))
      · have := maps_main a va pa cap vcap pcap (L.map fun s => s.data.toList) V Lp w (keys_list h) hv hp (by simp; omega) (by simp; omega) (by simp; omega)
        rwa [List.length_map] at this

end Go.Proofs.Ytlfehhegkpoojaa
