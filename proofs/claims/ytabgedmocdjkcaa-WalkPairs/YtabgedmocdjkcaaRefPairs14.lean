/- Layer 14, the document's answer: pairs in order. Made by tools/gen_refpairs14.py. -/
import Derived.Test.YtabgedmocdjkcaaRefAhead14
import Derived.Test.YtabgedmocdjkcaaPairsM14
import Derived.Test.YtabgedmocdjkcaaJoin38
import Derived.Deep.CutBlock
namespace Go.Proofs.Ytabgedmocdjkcaa
open Go.RowKit Go.Shelf

/-- 'append' of what lies anywhere, be it nothing, to a row of one's own. -/
theorem one_append {e t : TypeId} {i : TypeInfo} {z : Value} {bytes : Nat} (ht : Try.prog.underlying t = some (.slice e)) (hi : Try.prog.info? e = some i) (hz0 : i.zero = some z) (hz1 : i.size = 1) (hz2 : i.bytes = bytes) (hzs : z.cells.size = 1) (hby : bytes ≤ 16)
    (W : World) (base : Nat) (ty : TypeId) (v u : Value) (A R : List Value) (h : W.ownsRow base e 1 v A.length A) (hu : SliceK W 1 u R.length R) (h1 : ∀ x ∈ R, x.oneCell' = true) (hbig : A.length + R.length ≤ 1000000) (hbase : base ≤ W.heap.size) :
    ∃ v' w', (Builtin.append_ #[t, t] ty #[v, u]).run Try.prog W = .ok v' w' ∧ w'.ownsRow base e 1 v' (A ++ R).length (A ++ R) ∧ Only (fun k => v.ownBlock = some k) W w' ∧ (∀ k, v'.ownBlock = some k → v.ownBlock = some k ∨ W.heap.size ≤ k) := by
  rcases hu.2 with ⟨rfl, h0⟩ | ⟨b, off, cap, rfl, _, _, hc⟩
  · obtain rfl : R = [] := List.eq_nil_of_length_eq_zero h0
    rw [List.append_nil]
    exact ⟨v, W, run_append_owned_none (P := Try.prog) (w := W) base t ty e i 1 ht hi v _ _ h, h, Only.refl _ _, fun _ h => .inl h⟩
  · obtain ⟨v', w', h1, h2, h3, _, h5⟩ := run_append_own_at (P := Try.prog) W base t ty e i z 1 bytes ht hi hz0 hz1 hz2 hzs (by decide) v _ _ h ⟨b, off, none⟩ R.length cap R (by omega) hc.get h1 (by simp only [maxLen]; omega)
      (by
        have : (A.length + R.length) * bytes ≤ 1000000 * 16 := Nat.mul_le_mul hbig hby
        omega) hbase
    refine ⟨v', w', h1, by rw [List.length_append]; exact h2, grown_only h3, fun k hk => ?_⟩
    rcases h5 with h | h
    · exact .inl (h.symm.trans hk)
    · rw [h] at hk; injection hk with hk; exact .inr (Nat.le_of_eq hk)
theorem own_cellN {w : World} {base n : Nat} {e : TypeId} {v : Value} {xs : List Value} (hn : 0 < n) (h : w.ownsRow base e 1 v n xs) :
    ∃ g cap, v = .slice (some ⟨g, 0, none⟩) n cap ∧ base ≤ g ∧ g < w.heap.size ∧ n ≤ cap ∧ ∀ (j : Nat) (u : Value), xs[j]? = some u → w.cell? ⟨g, j, none⟩ = some u := by
  cases n with
  | zero => omega
  | succ n =>
    obtain ⟨g, cap, e1, e2, e3, e4⟩ := own_cell h
    subst e1
    exact ⟨g, cap, rfl, (own_lt h rfl).1, e2, e3, e4⟩
/-- A row from a place on, and up to it. -/
theorem row_take {w : World} {base n g cap j : Nat} {e : TypeId} {xs : List Value} (h : w.ownsRow base e 1 (.slice (some ⟨g, 0, none⟩) n cap) n xs) (hj : j ≤ n) : SliceK w 1 (.slice (some ⟨g, 0, none⟩) j cap) (xs.take j).length (xs.take j) := by
  have h1 := SliceK.of_own (own_take h hj)
  have hl : xs.length = n := by have := h.1; omega
  rw [Nat.mul_one] at h1
  rw [show (xs.take j).length = j by rw [List.length_take]; omega]; exact h1
theorem row_drop {w : World} {base n g cap j : Nat} {e : TypeId} {xs : List Value} (h : w.ownsRow base e 1 (.slice (some ⟨g, 0, none⟩) n cap) n xs) (hj : j ≤ n) : SliceK w 1 (.slice (some ⟨g, j, none⟩) (n - j) (cap - j)) (xs.drop j).length (xs.drop j) := by
  have hl : xs.length = n := by have := h.1; omega
  obtain ⟨h0, ⟨hv, _⟩ | ⟨b, off, c, hv, h2, h3, h4⟩⟩ := SliceK.of_own h
  · cases hv
  · cases hv
    rw [show (xs.drop j).length = n - j by rw [List.length_drop, hl]]
    refine ⟨by rw [List.length_drop, hl]; omega, .inr ⟨g, j, cap - j, rfl, by omega, h3, fun i u hi => ?_⟩⟩
    rw [List.getElem?_drop] at hi
    have := h4 (j + i) u hi
    rwa [Nat.zero_add] at this
theorem slice_none (w : World) (p : Prop) [Decidable p] (g n c : Nat) (hg : g < w.heap.size) : SliceK w 1 (.slice (if p then some ⟨g, 0, none⟩ else some ⟨g, n, none⟩) 0 c) ([] : List Value).length [] := by
  refine ⟨rfl, .inr ?_⟩
  split
  · exact ⟨g, 0, c, rfl, Nat.zero_le _, hg, fun i u h => by simp at h⟩
  · exact ⟨g, n, c, rfl, Nat.zero_le _, hg, fun i u h => by simp at h⟩
theorem own_start (w : World) (base : Nat) (e : TypeId) (hb : base ≤ w.heap.size) : (w.alloc (.cells #[] e)).ownsRow base e 1 (.slice (some ⟨w.heap.size, 0, none⟩) 0 0) 0 [] :=
  ⟨rfl, .inr ⟨w.heap.size, 0, #[], rfl, hb, World.alloc_heap_new w _, Nat.le_refl _, by simp [maxLen], rfl, rfl⟩⟩
theorem blk_slice {w : World} {e : TypeId} {B : Nat} {x : Value} (h : Blk e w B [x]) : SliceK w 1 (.slice (some ⟨B, 0, none⟩) 1 1) [x].length [x] :=
  ⟨rfl, .inr ⟨B, 0, 1, rfl, Nat.le_refl _, h.lt, fun j u hj => by
    have h1 := h.at (o := j) hj
    rwa [Nat.zero_add]⟩⟩
/-- A row that is written, and one value in a block of its own. -/
structure RI (e : TypeId) (base : Nat) (V : Value) (xs : List Value) (B : Nat) (x : Value) (w : World) : Prop where
  own : w.ownsRow base e 1 V xs.length xs
  blk : Blk e w B [x]
  ne : ¬ V.ownBlock = some B
theorem ri_blk {e : TypeId} {base : Nat} {w : World} {V : Value} {xs : List Value} (h : w.ownsRow base e 1 V xs.length xs) (x : Value) : RI e base V xs w.heap.size x (w.alloc (.cells #[x] e)) :=
  ⟨own_only h (Only.of_below (new_below _ _) (fun _ => False)) fun _ _ e => e, Blk.new (l := [x]), fun e => by have := (own_lt h e).2; omega⟩
theorem ri_row {e : TypeId} {base : Nat} {w : World} {B : Nat} {x : Value} (h : Blk e w B [x]) (hb : base ≤ w.heap.size) : RI e base (.slice (some ⟨w.heap.size, 0, none⟩) 0 0) [] B x (w.alloc (.cells #[] e)) :=
  ⟨own_start w base e hb, h.alloc _, fun e => by
    have h1 := h.lt
    simp [Value.ownBlock] at e
    omega⟩
theorem RI.app {e : TypeId} {base : Nat} {V V' : Value} {xs ys : List Value} {B : Nat} {x : Value} {w w' : World} (h : RI e base V xs B x w) (ho : Only (fun k => V.ownBlock = some k) w w') (hw : w'.ownsRow base e 1 V' ys.length ys) (hb : ∀ k, V'.ownBlock = some k → V.ownBlock = some k ∨ w.heap.size ≤ k) : RI e base V' ys B x w' :=
  ⟨hw, h.blk.only ho h.ne, fun e => (hb _ e).elim h.ne fun e => by have := h.blk.lt; omega⟩
/-- Where the answer stands: two rows. -/
structure RPS (W : World) (L : List Pr) (v u : Value) (Wx : World) : Prop where
  rv : Wx.ownsRow W.heap.size 9 1 v L.length ((L.map Prod.fst).map keyV)
  ru : Wx.ownsRow W.heap.size 3 1 u L.length ((L.map Prod.snd).map numV)
  bl : Below W.heap.size W Wx
theorem RPS.below {W Wx Wy : World} {L : List Pr} {v u : Value} (h : RPS W L v u Wx) (hb : Below Wx.heap.size Wx Wy) : RPS W L v u Wy :=
  ⟨own_only h.rv (Only.of_below hb (fun _ => False)) fun _ _ e => e, own_only h.ru (Only.of_below hb (fun _ => False)) fun _ _ e => e, below_step h.bl hb⟩
/-- Behind a pair put in. -/
theorem rps_ins {W wi wj wz : World} {L : List Pr} {x : Pr} {j : Nat} {a8 a4 : Option Addr} {q8 q4 : Nat} (hbl : Below W.heap.size W wi) (hi : insZ x L = L.take j ++ x :: L.drop j)
    (h1 : wj.ownsRow wi.heap.size 9 1 (.slice a8 (L.length + 1) q8) (L.length + 1) ([] ++ ((L.map Prod.fst).map keyV).take j ++ [.string ⟨x.1.toArray⟩] ++ ((L.map Prod.fst).map keyV).drop j)) (hij : Below wi.heap.size wi wj)
    (h2 : wz.ownsRow wj.heap.size 3 1 (.slice a4 (L.length + 1) q4) (L.length + 1) ([] ++ ((L.map Prod.snd).map numV).take j ++ [.int .i64 x.2] ++ ((L.map Prod.snd).map numV).drop j)) (hjz : Below wj.heap.size wj wz) :
    (insZ x L).length = L.length + 1 ∧ RPS W (insZ x L) (.slice a8 (L.length + 1) q8) (.slice a4 (L.length + 1) q4) wz := by
  have e1 : ((insZ x L).map Prod.fst).map keyV = [] ++ ((L.map Prod.fst).map keyV).take j ++ [.string ⟨x.1.toArray⟩] ++ ((L.map Prod.fst).map keyV).drop j := by
    rw [hi]; simp [keyV, List.map_take, List.map_drop]
  have e2 : ((insZ x L).map Prod.snd).map numV = [] ++ ((L.map Prod.snd).map numV).take j ++ [.int .i64 x.2] ++ ((L.map Prod.snd).map numV).drop j := by
    rw [hi]; simp [numV, List.map_take, List.map_drop]
  have hl : (insZ x L).length = L.length + 1 := by
    rw [hi]
    simp only [List.length_append, List.length_take, List.length_cons, List.length_drop]; omega
  have zi := hbl.size
  have zj := hij.size
  refine ⟨hl, ?_, ?_, ?_⟩
  · rw [hl, e1]
    exact own_lower (own_only h1 (Only.of_below hjz (fun _ => False)) fun _ _ e => e) zi
  · rw [hl, e2]
    exact own_lower h2 (by omega)
  · exact below_step (below_step hbl hij) hjz
set_option maxRecDepth 100000 in
set_option maxHeartbeats 4000000 in
theorem ref_Pairs {a1 a2 : Option Addr} {T : List Key} {N : List Int} {c1 c2 : Nat} {W : World} (hT : TextsIn W a1 T) (hN : ListIn numV W a2 N) (hl : T.length ≤ 200) (hx : ∀ x ∈ T, x.length ≤ 100) :
    Calls Try.prog 9 #[.slice a1 T.length c1, .slice a2 N.length c2] W fun e w' => ∃ v u, e = .returned (.tuple #[v, u]) ∧ RPS W (refZ (T.zip N)) v u w' := by
  have HTX : Hid (∀ wr, Below W.heap.size W wr → ∀ j x, T[j]? = some x → ∃ b off, a1 = some ⟨b, off, none⟩ ∧ b < W.heap.size ∧ wr.cell? ⟨b, off + j, none⟩ = some (.string ⟨x.toArray⟩)) := Lib.hid fun wr ho j x hx => by
    obtain ⟨b, off, e1, e2, e3⟩ := hT j x hx
    exact ⟨b, off, e1, e2, (ho.cell (p := ⟨b, off + j, none⟩) e2).trans e3⟩
  have HNX : Hid (∀ wr, Below W.heap.size W wr → ∀ j x, N[j]? = some x → ∃ b off, a2 = some ⟨b, off, none⟩ ∧ b < W.heap.size ∧ wr.cell? ⟨b, off + j, none⟩ = some (.int .i64 x)) := Lib.hid fun wr ho j x hx => by
    obtain ⟨b, off, e1, e2, e3⟩ := hN j x hx
    exact ⟨b, off, e1, e2, (ho.cell (p := ⟨b, off + j, none⟩) e2).trans e3⟩
  have HX := Lib.hid hx
  have HZ : Hid ((T.zip N).length = min T.length N.length) := Lib.hid List.length_zip
  have HZA : Hid (∀ k t i, T[k]? = some t → N[k]? = some i → (T.zip N)[k]? = some (t, i)) := Lib.hid fun k t i h1 h2 => by
    rw [List.getElem?_zip_eq_some]; exact ⟨h1, h2⟩
  have HS0 : Hid (RPS W (refZ ((T.zip N).take 0)) (.slice none 0 0) (.slice none 0 0) W) := Lib.hid ⟨World.ownsRow_nil _ _ _ _, World.ownsRow_nil _ _ _ _, Below.refl _ _⟩
  have HLN : Hid (∀ k, (refZ ((T.zip N).take k)).length ≤ 200) := Lib.hid fun k => by
    have h1 := refZ_len ((T.zip N).take k)
    have h2 : ((T.zip N).take k).length ≤ T.length := by rw [List.length_take, List.length_zip]; omega
    omega
  have HLX : Hid (∀ k, ∀ y ∈ refZ ((T.zip N).take k), y.1.length ≤ 100) := Lib.hid fun k y hy => by
    have h1 := ((refZ_ok ((T.zip N).take k)).2 y).1 hy
    exact hx _ (List.of_mem_zip (List.mem_of_mem_take h1.1)).1
  obtain ⟨i0, hi0, hz0, hz1, hz2⟩ := info_parts infoStr
  obtain ⟨j0, hj0, hy0, hy1, hy2⟩ := info_parts infoInt
  clear hT hN hx
  go_enter Try.func9, Try.ntmps9
  go_wp2_with fail
  go_loopw [6, 7, 8] (fun v u i wr => ∃ (k : Nat) (L : List Pr) (a a' : Option Addr) (c c' : Nat), k ≤ (T.zip N).length ∧ v = .slice a L.length c ∧ u = .slice a' L.length c' ∧ i = .int .i64 (k : Int) ∧ Hid (L = refZ ((T.zip N).take k)) ∧ Hid (L = [] → a = none ∧ c = 0 ∧ a' = none ∧ c' = 0) ∧ Hid (RPS W L (.slice a L.length c) (.slice a' L.length c') wr)) (fun _ _ i _ => (T.zip N).length - (intOf i).toNat)
  case atStart => exact ⟨0, [], none, none, 0, 0, Nat.zero_le _, rfl, rfl, rfl, rfl, Lib.hid fun _ => ⟨rfl, rfl, rfl, rfl⟩, HS0⟩
  case round =>
    obtain ⟨k, L, a, a', c, c', hk, rfl, rfl, rfl, HL, HNL, ST⟩ := hrel
    generalize wr = wo at *
    clear HS0
    by_cases hkl : k < (T.zip N).length
    · have hk1 : k < T.length := by have := HZ.out; omega
      have hk2 : k < N.length := by have := HZ.out; omega
      obtain ⟨t, ht⟩ : ∃ t, T[k]? = some t := ⟨_, List.getElem?_eq_getElem hk1⟩
      obtain ⟨i, hi⟩ : ∃ i, N[k]? = some i := ⟨_, List.getElem?_eq_getElem hk2⟩
      obtain ⟨b1, f1, rfl, hb1, e1⟩ := HTX.out wo ST.out.bl k t ht
      obtain ⟨b2, f2, rfl, hb2, e2⟩ := HNX.out wo ST.out.bl k i hi
      have hzk := HZA.out k t i ht hi
      have hnx : refZ ((T.zip N).take (k + 1)) = putZ L (t, i) := by
        obtain ⟨q1, q2⟩ := List.getElem?_eq_some_iff.1 hzk
        rw [List.take_succ_eq_append_getElem q1, q2, refZ_snoc, ← HL.out]
      have HNX2 := Lib.hid hnx
      have htl := HX.out t (List.mem_of_getElem? ht)
      have hLn : L.length ≤ 200 := by rw [HL.out]; exact HLN.out k
      have HLy : Hid (∀ y ∈ L, y.1.length ≤ 100) := Lib.hid (by rw [HL.out]; exact HLX.out k)
      clear ht hi hzk hnx
      by_cases hte : t = []
      · subst hte
        have HL2 : Hid (L = refZ ((T.zip N).take (k + 1))) := Lib.hid (by rw [HNX2.out]; simp [putZ])
        go_wp2_with fail
        go_roundw
        case rel => exact ⟨k + 1, L, a, a', c, c', by omega, rfl, rfl, by go_num, HL2, HNL, ST⟩
        case measure => simp [intOf]; omega
      · have htb : List.isEmpty t = false := by cases t with
          | nil => exact absurd rfl hte
          | cons => rfl
        have HIN : Hid (refZ ((T.zip N).take (k + 1)) = insZ (t, i) L) := Lib.hid (by rw [HNX2.out]; simp [putZ, hte])
        have hWo := ST.out.bl.size
        have HTE : Hid (∀ w', Below wo.heap.size wo w' → w'.cell? ⟨b1, f1 + k, none⟩ = some (.string ⟨t.toArray⟩) ∧ w'.cell? ⟨b2, f2 + k, none⟩ = some (.int .i64 i)) := Lib.hid fun w' h => ⟨(h.cell (p := ⟨b1, f1 + k, none⟩) (Nat.lt_of_lt_of_le hb1 hWo)).trans e1, (h.cell (p := ⟨b2, f2 + k, none⟩) (Nat.lt_of_lt_of_le hb2 hWo)).trans e2⟩
        have HKO : Hid (∀ x ∈ (L.map Prod.fst).map keyV, x.oneCell' = true) := Lib.hid fun x hx => by
          obtain ⟨y, _, rfl⟩ := List.mem_map.1 hx; rfl
        have HNO : Hid (∀ x ∈ (L.map Prod.snd).map numV, x.oneCell' = true) := Lib.hid fun x hx => by
          obtain ⟨y, _, rfl⟩ := List.mem_map.1 hx; rfl
        have hkI1 : (k : Int) < (T.length : Int) := by omega
        have hkI2 : (k : Int) < (N.length : Int) := by omega
        by_cases hLe : L.length = 0
        · obtain rfl : L = [] := List.eq_nil_of_length_eq_zero hLe
          obtain ⟨rfl, rfl, rfl, rfl⟩ := HNL.out rfl
          go_wp2_with fail
          go_loopw [9] (fun at_ wx => at_ = .int .i64 0 ∧ Hid (Below wo.heap.size wo wx)) (fun _ _ => 0)
          case atStart => exact ⟨rfl, Lib.hid (Below.refl _ _)⟩
          case round =>
            obtain ⟨rfl, HBX⟩ := hrel
            have hC := HBX.out.drew
            have hjL : 0 ≤ ([] : List Pr).length := Nat.zero_le _
            have HIZ : Hid (insZ (t, i) [] = ([] : List Pr).take 0 ++ (t, i) :: ([] : List Pr).drop 0) := rfl
            have HRP : Hid (∀ w', Below wo.heap.size wo w' → (SliceK w' 1 (.slice none 0 0) ((([] : List Pr).map Prod.fst).map keyV |>.take 0).length ((([] : List Pr).map Prod.fst).map keyV |>.take 0) ∧ SliceK w' 1 (.slice none 0 0) ((([] : List Pr).map Prod.fst).map keyV |>.drop 0).length ((([] : List Pr).map Prod.fst).map keyV |>.drop 0)) ∧
                (SliceK w' 1 (.slice none 0 0) ((([] : List Pr).map Prod.snd).map numV |>.take 0).length ((([] : List Pr).map Prod.snd).map numV |>.take 0) ∧ SliceK w' 1 (.slice none 0 0) ((([] : List Pr).map Prod.snd).map numV |>.drop 0).length ((([] : List Pr).map Prod.snd).map numV |>.drop 0))) := Lib.hid fun w' _ => ⟨⟨⟨rfl, .inl ⟨rfl, rfl⟩⟩, ⟨rfl, .inl ⟨rfl, rfl⟩⟩⟩, ⟨⟨rfl, .inl ⟨rfl, rfl⟩⟩, ⟨rfl, .inl ⟨rfl, rfl⟩⟩⟩⟩
            go_wp2_with fail
            refine wp_region_noPanic ?_
            refine wp_region_held_drew (S := fun _ => True) (by kernel_rfl) ?_ (fun hHeld => ?_)
            · trivial
            refine wpAnyH_take (i := 0) (oi := ⟨some 27, _, _, _, _, _⟩) (v := ?_) rfl (by kernel_rfl) (by kernel_rfl) (by kernel_rfl) (fun _ _ _ h => h) (Or.inl ⟨by rfl, ?_⟩) (by assumption) ?_
            rotate_left
            · (intro w hSw; (try dsimp only at hSw); go_simp; try with_reducible rfl)
            try simp only [Act.put, List.setIfInBounds_toArray, List.set_cons_zero, List.set_cons_succ]
            refine wpAnyH_take (i := 1) (oi := ⟨some 28, _, _, _, _, _⟩) (v := ?_) rfl (by kernel_rfl) (by kernel_rfl) (by kernel_rfl) (fun _ _ _ h => h) (Or.inl ⟨by rfl, ?_⟩) (by assumption) ?_
            rotate_left
            · (intro w hSw; (try dsimp only at hSw); go_simp; try with_reducible rfl)
            try simp only [Act.put, List.setIfInBounds_toArray, List.set_cons_zero, List.set_cons_succ]
            refine wpAnyH_take (i := 2) (oi := ⟨some 29, _, _, _, _, _⟩) (v := ?_) rfl (by kernel_rfl) (by kernel_rfl) (by kernel_rfl) (fun _ _ _ h => h) (Or.inl ⟨by rfl, ?_⟩) (by assumption) ?_
            rotate_left
            · (intro w hSw; (try dsimp only at hSw); go_simp; try with_reducible rfl)
            try simp only [Act.put, List.setIfInBounds_toArray, List.set_cons_zero, List.set_cons_succ]
            refine wpAnyH_take (i := 3) (oi := ⟨some 30, _, _, _, _, _⟩) (v := ?_) rfl (by kernel_rfl) (by kernel_rfl) (by kernel_rfl) (fun _ _ _ h => h) (Or.inl ⟨by rfl, ?_⟩) (by assumption) ?_
            rotate_left
            · (intro w hSw; (try dsimp only at hSw); go_simp; try with_reducible rfl)
            try simp only [Act.put, List.setIfInBounds_toArray, List.set_cons_zero, List.set_cons_succ]
            refine wpAnyH_take (i := 4) (oi := ⟨some 31, _, _, _, _, _⟩) (v := ?_) rfl (by kernel_rfl) (by kernel_rfl) (by kernel_rfl) (fun _ _ _ h => h) (Or.inl ⟨by rfl, ?_⟩) (by assumption) ?_
            rotate_left
            · (intro w hSw; (try dsimp only at hSw); go_simp; try with_reducible rfl)
            try simp only [Act.put, List.setIfInBounds_toArray, List.set_cons_zero, List.set_cons_succ]
            refine wpAnyH_take (i := 5) (oi := ⟨some 32, _, _, _, _, _⟩) (v := undef) rfl (by kernel_rfl) (by kernel_rfl) (by kernel_rfl) (fun _ _ _ h => h) (Or.inr ⟨by rfl, rfl⟩) (by assumption) ?_
            try simp only [Act.put, List.setIfInBounds_toArray, List.set_cons_zero, List.set_cons_succ]
            refine wpAnyH_take (i := 6) (oi := ⟨some 33, _, _, _, _, _⟩) (v := undef) rfl (by kernel_rfl) (by kernel_rfl) (by kernel_rfl) (fun _ _ _ h => h) (Or.inr ⟨by rfl, rfl⟩) (by assumption) ?_
            try simp only [Act.put, List.setIfInBounds_toArray, List.set_cons_zero, List.set_cons_succ]
            refine wpAnyH_take (i := 7) (oi := ⟨some 34, _, _, _, _, _⟩) (v := undef) rfl (by kernel_rfl) (by kernel_rfl) (by kernel_rfl) (fun _ _ _ h => h) (Or.inr ⟨by rfl, rfl⟩) (by assumption) ?_
            try simp only [Act.put, List.setIfInBounds_toArray, List.set_cons_zero, List.set_cons_succ]
            refine wpAnyH_take (i := 8) (oi := ⟨some 35, _, _, _, _, _⟩) (v := undef) rfl (by kernel_rfl) (by kernel_rfl) (by kernel_rfl) (fun _ _ _ h => h) (Or.inr ⟨by rfl, rfl⟩) (by assumption) ?_
            try simp only [Act.put, List.setIfInBounds_toArray, List.set_cons_zero, List.set_cons_succ]
            refine wpAnyH_take (i := 9) (oi := ⟨some 36, _, _, _, _, _⟩) (v := undef) rfl (by kernel_rfl) (by kernel_rfl) (by kernel_rfl) (fun _ _ _ h => h) (Or.inr ⟨by rfl, rfl⟩) (by assumption) ?_
            try simp only [Act.put, List.setIfInBounds_toArray, List.set_cons_zero, List.set_cons_succ]
            refine wpAnyH_take (i := 10) (oi := ⟨some 37, _, _, _, _, _⟩) (v := undef) rfl (by kernel_rfl) (by kernel_rfl) (by kernel_rfl) (fun _ _ _ h => h) (Or.inr ⟨by rfl, rfl⟩) (by assumption) ?_
            try simp only [Act.put, List.setIfInBounds_toArray, List.set_cons_zero, List.set_cons_succ]
            refine wpAnyH_take (i := 11) (oi := ⟨some 38, _, _, _, _, _⟩) (v := undef) rfl (by kernel_rfl) (by kernel_rfl) (by kernel_rfl) (fun _ _ _ h => h) (Or.inr ⟨by rfl, rfl⟩) (by assumption) ?_
            try simp only [Act.put, List.setIfInBounds_toArray, List.set_cons_zero, List.set_cons_succ]
            refine wpAnyH_take (i := 12) (oi := ⟨some 39, _, _, _, _, _⟩) (v := undef) rfl (by kernel_rfl) (by kernel_rfl) (by kernel_rfl) (fun _ _ _ h => h) (Or.inr ⟨by rfl, rfl⟩) (by assumption) ?_
            try simp only [Act.put, List.setIfInBounds_toArray, List.set_cons_zero, List.set_cons_succ]
            refine wpAnyH_take (i := 13) (oi := ⟨some 40, _, _, _, _, _⟩) (v := undef) rfl (by kernel_rfl) (by kernel_rfl) (by kernel_rfl) (fun _ _ _ h => h) (Or.inr ⟨by rfl, rfl⟩) (by assumption) ?_
            try simp only [Act.put, List.setIfInBounds_toArray, List.set_cons_zero, List.set_cons_succ]
            refine wpAnyH_take (i := 14) (oi := ⟨some 41, _, _, _, _, _⟩) (v := undef) rfl (by kernel_rfl) (by kernel_rfl) (by kernel_rfl) (fun _ _ _ h => h) (Or.inr ⟨by rfl, rfl⟩) (by assumption) ?_
            try simp only [Act.put, List.setIfInBounds_toArray, List.set_cons_zero, List.set_cons_succ]
            refine wpAnyH_take (i := 15) (oi := ⟨some 42, _, _, _, _, _⟩) (v := undef) rfl (by kernel_rfl) (by kernel_rfl) (by kernel_rfl) (fun _ _ _ h => h) (Or.inr ⟨by rfl, rfl⟩) (by assumption) ?_
            try simp only [Act.put, List.setIfInBounds_toArray, List.set_cons_zero, List.set_cons_succ]
            refine wpAnyH_take (i := 16) (oi := ⟨some 43, _, _, _, _, _⟩) (v := undef) rfl (by kernel_rfl) (by kernel_rfl) (by kernel_rfl) (fun _ _ _ h => h) (Or.inr ⟨by rfl, rfl⟩) (by assumption) ?_
            try simp only [Act.put, List.setIfInBounds_toArray, List.set_cons_zero, List.set_cons_succ]
            refine wpAnyH_take (i := 17) (oi := ⟨some 44, _, _, _, _, _⟩) (v := undef) rfl (by kernel_rfl) (by kernel_rfl) (by kernel_rfl) (fun _ _ _ h => h) (Or.inr ⟨by rfl, rfl⟩) (by assumption) ?_
            try simp only [Act.put, List.setIfInBounds_toArray, List.set_cons_zero, List.set_cons_succ]
            refine wpAnyH_take (i := 18) (oi := ⟨some 45, _, _, _, _, _⟩) (v := undef) rfl (by kernel_rfl) (by kernel_rfl) (by kernel_rfl) (fun _ _ _ h => h) (Or.inr ⟨by rfl, rfl⟩) (by assumption) ?_
            try simp only [Act.put, List.setIfInBounds_toArray, List.set_cons_zero, List.set_cons_succ]
            refine wpAnyH_take (i := 19) (oi := ⟨some 46, _, _, _, _, _⟩) (v := undef) rfl (by kernel_rfl) (by kernel_rfl) (by kernel_rfl) (fun _ _ _ h => h) (Or.inr ⟨by rfl, rfl⟩) (by assumption) ?_
            try simp only [Act.put, List.setIfInBounds_toArray, List.set_cons_zero, List.set_cons_succ]
            refine wpAnyH_take (i := 20) (oi := ⟨some 47, _, _, _, _, _⟩) (v := undef) rfl (by kernel_rfl) (by kernel_rfl) (by kernel_rfl) (fun _ _ _ h => h) (Or.inr ⟨by rfl, rfl⟩) (by assumption) ?_
            try simp only [Act.put, List.setIfInBounds_toArray, List.set_cons_zero, List.set_cons_succ]
            refine wpAnyH_take (i := 21) (oi := ⟨some 48, _, _, _, _, _⟩) (v := undef) rfl (by kernel_rfl) (by kernel_rfl) (by kernel_rfl) (fun _ _ _ h => h) (Or.inr ⟨by rfl, rfl⟩) (by assumption) ?_
            try simp only [Act.put, List.setIfInBounds_toArray, List.set_cons_zero, List.set_cons_succ]
            refine wpAnyH_take (i := 22) (oi := ⟨some 49, _, _, _, _, _⟩) (v := ?_) rfl (by kernel_rfl) (by kernel_rfl) (by kernel_rfl) (fun _ _ _ h => h) (Or.inl ⟨by rfl, ?_⟩) (by assumption) ?_
            rotate_left
            · (intro w hSw; (try dsimp only at hSw); go_simp; try with_reducible rfl)
            try simp only [Act.put, List.setIfInBounds_toArray, List.set_cons_zero, List.set_cons_succ]
            refine wpAnyH_done (by kernel_rfl) ?_ _
            refine NoPanic.normal ?_
            go_wp2_with fail
            refine wp_region_noPanic ?_
            refine wp_region_held_drew (S := fun _ => True) (by kernel_rfl) ?_ (fun hHeld => ?_)
            · trivial
            refine wpAnyH_take (i := 0) (oi := ⟨some 52, _, _, _, _, _⟩) (v := ?_) rfl (by kernel_rfl) (by kernel_rfl) (by kernel_rfl) (fun _ _ _ h => h) (Or.inl ⟨by rfl, ?_⟩) (by assumption) ?_
            rotate_left
            · (intro w hSw; (try dsimp only at hSw); go_simp; try with_reducible rfl)
            try simp only [Act.put, List.setIfInBounds_toArray, List.set_cons_zero, List.set_cons_succ]
            refine wpAnyH_take (i := 1) (oi := ⟨some 53, _, _, _, _, _⟩) (v := ?_) rfl (by kernel_rfl) (by kernel_rfl) (by kernel_rfl) (fun _ _ _ h => h) (Or.inl ⟨by rfl, ?_⟩) (by assumption) ?_
            rotate_left
            · (intro w hSw; (try dsimp only at hSw); go_simp; try with_reducible rfl)
            try simp only [Act.put, List.setIfInBounds_toArray, List.set_cons_zero, List.set_cons_succ]
            refine wpAnyH_take (i := 2) (oi := ⟨some 54, _, _, _, _, _⟩) (v := ?_) rfl (by kernel_rfl) (by kernel_rfl) (by kernel_rfl) (fun _ _ _ h => h) (Or.inl ⟨by rfl, ?_⟩) (by assumption) ?_
            rotate_left
            · (intro w hSw; (try dsimp only at hSw); go_simp; try with_reducible rfl)
            try simp only [Act.put, List.setIfInBounds_toArray, List.set_cons_zero, List.set_cons_succ]
            refine wpAnyH_take (i := 3) (oi := ⟨some 55, _, _, _, _, _⟩) (v := ?_) rfl (by kernel_rfl) (by kernel_rfl) (by kernel_rfl) (fun _ _ _ h => h) (Or.inl ⟨by rfl, ?_⟩) (by assumption) ?_
            rotate_left
            · (intro w hSw; (try dsimp only at hSw); go_simp; try with_reducible rfl)
            try simp only [Act.put, List.setIfInBounds_toArray, List.set_cons_zero, List.set_cons_succ]
            refine wpAnyH_take (i := 4) (oi := ⟨some 56, _, _, _, _, _⟩) (v := ?_) rfl (by kernel_rfl) (by kernel_rfl) (by kernel_rfl) (fun _ _ _ h => h) (Or.inl ⟨by rfl, ?_⟩) (by assumption) ?_
            rotate_left
            · (intro w hSw; (try dsimp only at hSw); go_simp; try with_reducible rfl)
            try simp only [Act.put, List.setIfInBounds_toArray, List.set_cons_zero, List.set_cons_succ]
            refine wpAnyH_take (i := 5) (oi := ⟨some 57, _, _, _, _, _⟩) (v := undef) rfl (by kernel_rfl) (by kernel_rfl) (by kernel_rfl) (fun _ _ _ h => h) (Or.inr ⟨by rfl, rfl⟩) (by assumption) ?_
            try simp only [Act.put, List.setIfInBounds_toArray, List.set_cons_zero, List.set_cons_succ]
            refine wpAnyH_take (i := 6) (oi := ⟨some 58, _, _, _, _, _⟩) (v := undef) rfl (by kernel_rfl) (by kernel_rfl) (by kernel_rfl) (fun _ _ _ h => h) (Or.inr ⟨by rfl, rfl⟩) (by assumption) ?_
            try simp only [Act.put, List.setIfInBounds_toArray, List.set_cons_zero, List.set_cons_succ]
            refine wpAnyH_take (i := 7) (oi := ⟨some 59, _, _, _, _, _⟩) (v := undef) rfl (by kernel_rfl) (by kernel_rfl) (by kernel_rfl) (fun _ _ _ h => h) (Or.inr ⟨by rfl, rfl⟩) (by assumption) ?_
            try simp only [Act.put, List.setIfInBounds_toArray, List.set_cons_zero, List.set_cons_succ]
            refine wpAnyH_take (i := 8) (oi := ⟨some 60, _, _, _, _, _⟩) (v := undef) rfl (by kernel_rfl) (by kernel_rfl) (by kernel_rfl) (fun _ _ _ h => h) (Or.inr ⟨by rfl, rfl⟩) (by assumption) ?_
            try simp only [Act.put, List.setIfInBounds_toArray, List.set_cons_zero, List.set_cons_succ]
            refine wpAnyH_take (i := 9) (oi := ⟨some 61, _, _, _, _, _⟩) (v := undef) rfl (by kernel_rfl) (by kernel_rfl) (by kernel_rfl) (fun _ _ _ h => h) (Or.inr ⟨by rfl, rfl⟩) (by assumption) ?_
            try simp only [Act.put, List.setIfInBounds_toArray, List.set_cons_zero, List.set_cons_succ]
            refine wpAnyH_take (i := 10) (oi := ⟨some 62, _, _, _, _, _⟩) (v := undef) rfl (by kernel_rfl) (by kernel_rfl) (by kernel_rfl) (fun _ _ _ h => h) (Or.inr ⟨by rfl, rfl⟩) (by assumption) ?_
            try simp only [Act.put, List.setIfInBounds_toArray, List.set_cons_zero, List.set_cons_succ]
            refine wpAnyH_take (i := 11) (oi := ⟨some 63, _, _, _, _, _⟩) (v := undef) rfl (by kernel_rfl) (by kernel_rfl) (by kernel_rfl) (fun _ _ _ h => h) (Or.inr ⟨by rfl, rfl⟩) (by assumption) ?_
            try simp only [Act.put, List.setIfInBounds_toArray, List.set_cons_zero, List.set_cons_succ]
            refine wpAnyH_take (i := 12) (oi := ⟨some 64, _, _, _, _, _⟩) (v := undef) rfl (by kernel_rfl) (by kernel_rfl) (by kernel_rfl) (fun _ _ _ h => h) (Or.inr ⟨by rfl, rfl⟩) (by assumption) ?_
            try simp only [Act.put, List.setIfInBounds_toArray, List.set_cons_zero, List.set_cons_succ]
            refine wpAnyH_take (i := 13) (oi := ⟨some 65, _, _, _, _, _⟩) (v := undef) rfl (by kernel_rfl) (by kernel_rfl) (by kernel_rfl) (fun _ _ _ h => h) (Or.inr ⟨by rfl, rfl⟩) (by assumption) ?_
            try simp only [Act.put, List.setIfInBounds_toArray, List.set_cons_zero, List.set_cons_succ]
            refine wpAnyH_take (i := 14) (oi := ⟨some 66, _, _, _, _, _⟩) (v := ?_) rfl (by kernel_rfl) (by kernel_rfl) (by kernel_rfl) (fun _ _ _ h => h) (Or.inl ⟨by rfl, ?_⟩) (by assumption) ?_
            rotate_left
            · (intro w hSw; (try dsimp only at hSw); go_simp; try with_reducible rfl)
            try simp only [Act.put, List.setIfInBounds_toArray, List.set_cons_zero, List.set_cons_succ]
            refine wpAnyH_take (i := 15) (oi := ⟨some 67, _, _, _, _, _⟩) (v := ?_) rfl (by kernel_rfl) (by kernel_rfl) (by kernel_rfl) (fun _ _ _ h => h) (Or.inl ⟨by rfl, ?_⟩) (by assumption) ?_
            rotate_left
            · (intro w hSw; (try dsimp only at hSw); go_simp; try with_reducible rfl)
            try simp only [Act.put, List.setIfInBounds_toArray, List.set_cons_zero, List.set_cons_succ]
            refine wpAnyH_take (i := 16) (oi := ⟨some 68, _, _, _, _, _⟩) (v := undef) rfl (by kernel_rfl) (by kernel_rfl) (by kernel_rfl) (fun _ _ _ h => h) (Or.inr ⟨by rfl, rfl⟩) (by assumption) ?_
            try simp only [Act.put, List.setIfInBounds_toArray, List.set_cons_zero, List.set_cons_succ]
            refine wpAnyH_take (i := 17) (oi := ⟨some 69, _, _, _, _, _⟩) (v := undef) rfl (by kernel_rfl) (by kernel_rfl) (by kernel_rfl) (fun _ _ _ h => h) (Or.inr ⟨by rfl, rfl⟩) (by assumption) ?_
            try simp only [Act.put, List.setIfInBounds_toArray, List.set_cons_zero, List.set_cons_succ]
            refine wpAnyH_take (i := 18) (oi := ⟨some 70, _, _, _, _, _⟩) (v := undef) rfl (by kernel_rfl) (by kernel_rfl) (by kernel_rfl) (fun _ _ _ h => h) (Or.inr ⟨by rfl, rfl⟩) (by assumption) ?_
            try simp only [Act.put, List.setIfInBounds_toArray, List.set_cons_zero, List.set_cons_succ]
            refine wpAnyH_take (i := 19) (oi := ⟨some 71, _, _, _, _, _⟩) (v := undef) rfl (by kernel_rfl) (by kernel_rfl) (by kernel_rfl) (fun _ _ _ h => h) (Or.inr ⟨by rfl, rfl⟩) (by assumption) ?_
            try simp only [Act.put, List.setIfInBounds_toArray, List.set_cons_zero, List.set_cons_succ]
            refine wpAnyH_take (i := 20) (oi := ⟨some 72, _, _, _, _, _⟩) (v := undef) rfl (by kernel_rfl) (by kernel_rfl) (by kernel_rfl) (fun _ _ _ h => h) (Or.inr ⟨by rfl, rfl⟩) (by assumption) ?_
            try simp only [Act.put, List.setIfInBounds_toArray, List.set_cons_zero, List.set_cons_succ]
            refine wpAnyH_take (i := 21) (oi := ⟨some 73, _, _, _, _, _⟩) (v := undef) rfl (by kernel_rfl) (by kernel_rfl) (by kernel_rfl) (fun _ _ _ h => h) (Or.inr ⟨by rfl, rfl⟩) (by assumption) ?_
            try simp only [Act.put, List.setIfInBounds_toArray, List.set_cons_zero, List.set_cons_succ]
            refine wpAnyH_take (i := 22) (oi := ⟨some 74, _, _, _, _, _⟩) (v := undef) rfl (by kernel_rfl) (by kernel_rfl) (by kernel_rfl) (fun _ _ _ h => h) (Or.inr ⟨by rfl, rfl⟩) (by assumption) ?_
            try simp only [Act.put, List.setIfInBounds_toArray, List.set_cons_zero, List.set_cons_succ]
            refine wpAnyH_take (i := 23) (oi := ⟨some 75, _, _, _, _, _⟩) (v := undef) rfl (by kernel_rfl) (by kernel_rfl) (by kernel_rfl) (fun _ _ _ h => h) (Or.inr ⟨by rfl, rfl⟩) (by assumption) ?_
            try simp only [Act.put, List.setIfInBounds_toArray, List.set_cons_zero, List.set_cons_succ]
            refine wpAnyH_take (i := 24) (oi := ⟨some 76, _, _, _, _, _⟩) (v := undef) rfl (by kernel_rfl) (by kernel_rfl) (by kernel_rfl) (fun _ _ _ h => h) (Or.inr ⟨by rfl, rfl⟩) (by assumption) ?_
            try simp only [Act.put, List.setIfInBounds_toArray, List.set_cons_zero, List.set_cons_succ]
            refine wpAnyH_take (i := 25) (oi := ⟨some 77, _, _, _, _, _⟩) (v := ?_) rfl (by kernel_rfl) (by kernel_rfl) (by kernel_rfl) (fun _ _ _ h => h) (Or.inl ⟨by rfl, ?_⟩) (by assumption) ?_
            rotate_left
            · (intro w hSw; (try dsimp only at hSw); go_simp; try with_reducible rfl)
            try simp only [Act.put, List.setIfInBounds_toArray, List.set_cons_zero, List.set_cons_succ]
            refine wpAnyH_done (by kernel_rfl) ?_ _
            refine NoPanic.normal ?_
            have hWB := hC.drew
            generalize wr.drew.drew = wi at hWB ⊢
            clear hC
            go_wp2_with fail
            have HWI : Hid (Below W.heap.size W wi) := Lib.hid (below_step ST.out.bl hWB)
            go_cut [6] from 78 to 93 (fun v wx => ∃ a3 q3, v = .slice a3 (0 + 1) q3 ∧ Hid (wx.ownsRow wi.heap.size 9 1 (.slice a3 (0 + 1) q3) (0 + 1) (([] ++ ((([] : List Pr).map Prod.fst).map keyV).take 0 ++ [Value.string ⟨t.toArray⟩]) ++ ((([] : List Pr).map Prod.fst).map keyV).drop 0)) ∧ Hid (Below wi.heap.size wi wx))
            case first =>
              have hC : Below wi.heap.size wi wi.drew := (Below.refl _ _).drew
              refine wp_region_noPanic ?_
              refine wp_region_held_drew (S := (fun w' => w'.cell? ⟨b1, f1 + k, none⟩ = some (.string ⟨t.toArray⟩) ∧ w'.cell? ⟨b2, f2 + k, none⟩ = some (.int .i64 i))) (by kernel_rfl) ?_ (fun hHeld => ?_)
              · exact HTE.out _ (hWB.trans (hC.mono hWB.size))
              generalize wi.drew = Wn at hC hHeld ⊢
              refine wpAnyH_take (i := 1) (oi := ⟨some 79, _, _, _, _, _⟩) (v := ?_) rfl (by kernel_rfl) (by kernel_rfl) (by kernel_rfl) (fun _ _ _ h => h) (Or.inl ⟨by rfl, ?_⟩) (by assumption) ?_
              rotate_left
              · (intro w hSw; (try dsimp only at hSw); go_simp; try with_reducible rfl)
              try simp only [Act.put, List.setIfInBounds_toArray, List.set_cons_zero, List.set_cons_succ]
              refine wpAnyH_take (i := 2) (oi := ⟨some 80, _, _, _, _, _⟩) (v := ?_) rfl (by kernel_rfl) (by kernel_rfl) (by kernel_rfl) (fun _ _ _ h => h) (Or.inl ⟨by rfl, ?_⟩) (by assumption) ?_
              rotate_left
              · (intro w hSw; (try dsimp only at hSw); go_simp; try with_reducible rfl)
              try simp only [Act.put, List.setIfInBounds_toArray, List.set_cons_zero, List.set_cons_succ]
              refine wpAnyH_take (i := 3) (oi := ⟨some 81, _, _, _, _, _⟩) (v := ?_) rfl (by kernel_rfl) (by kernel_rfl) (by kernel_rfl) (fun _ _ _ h => h) (Or.inl ⟨by rfl, ?_⟩) (by assumption) ?_
              rotate_left
              · (intro w hSw; (try dsimp only at hSw); go_simp; try with_reducible rfl)
              try simp only [Act.put, List.setIfInBounds_toArray, List.set_cons_zero, List.set_cons_succ]
              refine wpAnyH_take (i := 5) (oi := ⟨some 83, _, _, _, _, _⟩) (v := ?_) rfl (by kernel_rfl) (by kernel_rfl) (by kernel_rfl) (fun _ _ _ h => h) (Or.inl ⟨by rfl, ?_⟩) (by assumption) ?_
              rotate_left
              · (intro w hSw; (try dsimp only at hSw); go_simp; try with_reducible rfl)
              try simp only [Act.put, List.setIfInBounds_toArray, List.set_cons_zero, List.set_cons_succ]
              refine wpAnyH_take (i := 6) (oi := ⟨some 84, _, _, _, _, _⟩) (v := ?_) rfl (by kernel_rfl) (by kernel_rfl) (by kernel_rfl) (fun _ _ _ h => h) (Or.inl ⟨by rfl, ?_⟩) (by assumption) ?_
              rotate_left
              · (intro w hSw; (try dsimp only at hSw); go_simp; try with_reducible rfl)
              try simp only [Act.put, List.setIfInBounds_toArray, List.set_cons_zero, List.set_cons_succ]
              refine wpAnyH_take (i := 7) (oi := ⟨some 85, _, _, _, _, _⟩) (v := ?_) rfl (by kernel_rfl) (by kernel_rfl) (by kernel_rfl) (fun _ _ _ h => h) (Or.inl ⟨by rfl, ?_⟩) (by assumption) ?_
              rotate_left
              · (intro w hSw; (try dsimp only at hSw); go_simp; try with_reducible rfl)
              try simp only [Act.put, List.setIfInBounds_toArray, List.set_cons_zero, List.set_cons_succ]
              refine wpAnyH_take (i := 8) (oi := ⟨some 86, _, _, _, _, _⟩) (v := ?_) rfl (by kernel_rfl) (by kernel_rfl) (by kernel_rfl) (fun _ _ _ h => h) (Or.inl ⟨by rfl, ?_⟩) (by assumption) ?_
              rotate_left
              · (intro w hSw; (try dsimp only at hSw); go_simp; try with_reducible rfl)
              try simp only [Act.put, List.setIfInBounds_toArray, List.set_cons_zero, List.set_cons_succ]
              refine wpAnyH_take (i := 11) (oi := ⟨some 89, _, _, _, _, _⟩) (v := ?_) rfl (by kernel_rfl) (by kernel_rfl) (by kernel_rfl) (fun _ _ _ h => h) (Or.inl ⟨by rfl, ?_⟩) (by assumption) ?_
              rotate_left
              · (intro w hSw; (try dsimp only at hSw); go_simp; try with_reducible rfl)
              try simp only [Act.put, List.setIfInBounds_toArray, List.set_cons_zero, List.set_cons_succ]
              refine wpAnyH_take (i := 12) (oi := ⟨some 90, _, _, _, _, _⟩) (v := ?_) rfl (by kernel_rfl) (by kernel_rfl) (by kernel_rfl) (fun _ _ _ h => h) (Or.inl ⟨by rfl, ?_⟩) (by assumption) ?_
              rotate_left
              · (intro w hSw; (try dsimp only at hSw); go_simp; try with_reducible rfl)
              try simp only [Act.put, List.setIfInBounds_toArray, List.set_cons_zero, List.set_cons_succ]
              refine wpAnyH_take (i := 13) (oi := ⟨some 91, _, _, _, _, _⟩) (v := ?_) rfl (by kernel_rfl) (by kernel_rfl) (by kernel_rfl) (fun _ _ _ h => h) (Or.inl ⟨by rfl, ?_⟩) (by assumption) ?_
              rotate_left
              · (intro w hSw; (try dsimp only at hSw); go_simp; try with_reducible rfl)
              try simp only [Act.put, List.setIfInBounds_toArray, List.set_cons_zero, List.set_cons_succ]
              refine wpAnyH_ready (rs := [0, 9]) (by kernel_rfl) (by simp) ?_
              refine AllReadyH.cons (o := ⟨some 78, _, _, _, _, _⟩) rfl (fun K hK => ?_) (AllReadyH.cons (o := ⟨some 87, _, _, _, _, _⟩) rfl (fun K hK => ?_) AllReadyH.nil)
              · go_simp
                first | (have hri := ri_row ha hC.size; clear ha) | have h0 := own_start Wn wi.heap.size 9 hC.size
                replace hC := below_step hC (new_below Wn (.cells #[] 9))
                generalize World.alloc _ _ = Wn at *
                refine hK.out _ _ ?_ (fun hHeldX => ?_)
                · exact HTE.out _ (hWB.trans (hC.mono hWB.size))
                clear hK K hHeld
                rename _ => hHeld
                try simp only [Act.put, List.setIfInBounds_toArray, List.set_cons_zero, List.set_cons_succ]
                refine wpAnyH_ready (rs := [4, 9]) (by kernel_rfl) (by simp) ?_
                refine AllReadyH.cons (o := ⟨some 82, _, _, _, _, _⟩) rfl (fun K hK => ?_) (AllReadyH.cons (o := ⟨some 87, _, _, _, _, _⟩) rfl (fun K hK => ?_) AllReadyH.nil)
                · first | have hx := hri.own | have hx := h0
                  obtain ⟨v1, Wn, hr, hw, ho, hb⟩ := one_append Try.underlying22 hi0 hz0 hz1 hz2 rfl (by decide) Wn wi.heap.size 22 _ (.slice none 0 0) [] (((([] : List Pr).map Prod.fst).map keyV).take 0) hx (HRP.out _ (hWB.trans (hC.mono hWB.size))).1.1 (fun x hx => HKO.out x (List.mem_of_mem_take hx)) (by first | (simp; done) | (simp; omega)) hC.size
                  refine step_append_run rfl _ _ 22 rfl _ _ _ _ rfl rfl hr ?_
                  first | replace hri := hri.app ho hw hb | (clear h0; have h0 := hw)
                  replace hC := hC.trans (ho.below hC.size fun k hk e => by have := (own_lt hx e).1; omega)
                  clear hx hr hw ho hb
                  refine hK.out _ _ ?_ (fun hHeldX => ?_)
                  · exact HTE.out _ (hWB.trans (hC.mono hWB.size))
                  clear hK K hHeld
                  rename _ => hHeld
                  try simp only [Act.put, List.setIfInBounds_toArray, List.set_cons_zero, List.set_cons_succ]
                  refine wpAnyH_ready (rs := [9]) (by kernel_rfl) (by simp) ?_
                  refine AllReadyH.cons (o := ⟨some 87, _, _, _, _, _⟩) rfl (fun K hK => ?_) AllReadyH.nil
                  go_simp
                  first | (have hri := ri_blk h0 (Value.string ⟨t.toArray⟩); clear h0) | have ha : Blk 9 (Wn.alloc (.cells #[Value.string ⟨t.toArray⟩] 9)) Wn.heap.size [Value.string ⟨t.toArray⟩] := Blk.new
                  replace hC := below_step hC (new_below Wn (.cells #[Value.string ⟨t.toArray⟩] 9))
                  generalize World.alloc _ _ = Wn at *
                  refine hK.out _ _ ?_ (fun hHeldX => ?_)
                  · exact HTE.out _ (hWB.trans (hC.mono hWB.size))
                  clear hK K hHeld
                  rename _ => hHeld
                  try simp only [Act.put, List.setIfInBounds_toArray, List.set_cons_zero, List.set_cons_succ]
                  refine wpAnyH_ready (rs := [10]) (by kernel_rfl) (by simp) ?_
                  refine AllReadyH.cons (o := ⟨some 88, _, _, _, _, _⟩) rfl (fun K hK => ?_) AllReadyH.nil
                  obtain ⟨v2, Wn, hr, hw, ho, hb⟩ := one_append Try.underlying22 hi0 hz0 hz1 hz2 rfl (by decide) Wn wi.heap.size 22 _ _ ([] ++ ((([] : List Pr).map Prod.fst).map keyV).take 0) [Value.string ⟨t.toArray⟩] hri.own (blk_slice hri.blk) (fun x hx => by rw [List.mem_singleton] at hx; subst hx; rfl) (by first | (simp; done) | (simp; omega)) hC.size
                  refine step_append_run rfl _ _ 22 rfl _ _ _ _ rfl rfl hr ?_
                  replace hC := hC.trans (ho.below hC.size fun k hk e => by have := (own_lt hri.own e).1; omega)
                  have h2 := hw
                  clear hr hw ho hb hri
                  refine hK.out _ _ ?_ (fun hHeldX => ?_)
                  · exact HTE.out _ (hWB.trans (hC.mono hWB.size))
                  clear hK K hHeld
                  rename _ => hHeld
                  try simp only [Act.put, List.setIfInBounds_toArray, List.set_cons_zero, List.set_cons_succ]
                  refine wpAnyH_ready (rs := [14]) (by kernel_rfl) (by simp) ?_
                  refine AllReadyH.cons (o := ⟨some 92, _, _, _, _, _⟩) rfl (fun K hK => ?_) AllReadyH.nil
                  obtain ⟨v3, Wn, hr, hw, ho, hb⟩ := one_append Try.underlying22 hi0 hz0 hz1 hz2 rfl (by decide) Wn wi.heap.size 22 _ (.slice none 0 0) ([] ++ ((([] : List Pr).map Prod.fst).map keyV).take 0 ++ [Value.string ⟨t.toArray⟩]) (((([] : List Pr).map Prod.fst).map keyV).drop 0) h2 (HRP.out _ (hWB.trans (hC.mono hWB.size))).1.2 (fun x hx => HKO.out x (List.mem_of_mem_drop hx)) (by first | (simp; done) | (simp; omega)) hC.size
                  refine step_append_run rfl _ _ 22 rfl _ _ _ _ rfl rfl hr ?_
                  replace hC := hC.trans (ho.below hC.size fun k hk e => by have := (own_lt h2 e).1; omega)
                  have h3 := hw
                  clear hr hw ho hb h2
                  refine hK.out _ _ ?_ (fun hHeldX => ?_)
                  · exact HTE.out _ (hWB.trans (hC.mono hWB.size))
                  clear hK K hHeld
                  rename _ => hHeld
                  try simp only [Act.put, List.setIfInBounds_toArray, List.set_cons_zero, List.set_cons_succ]
                  refine wpAnyH_take (i := 15) (oi := ⟨some 6, _, _, _, _, _⟩) (v := ?_) rfl (by kernel_rfl) (by kernel_rfl) (by kernel_rfl) (fun _ _ _ h => h) (Or.inl ⟨by rfl, ?_⟩) (by assumption) ?_
                  rotate_left
                  · (intro w hSw; (try dsimp only at hSw); go_simp; try with_reducible rfl)
                  try simp only [Act.put, List.setIfInBounds_toArray, List.set_cons_zero, List.set_cons_succ]
                  refine wpAnyH_done (by kernel_rfl) ?_ _
                  refine NoPanic.normal ?_
                  rw [show List.length (α := Value) (([] ++ ((([] : List Pr).map Prod.fst).map keyV).take 0 ++ [Value.string ⟨t.toArray⟩]) ++ ((([] : List Pr).map Prod.fst).map keyV).drop 0) = 0 + 1 by first | (simp; done) | (simp; omega)] at h3
                  obtain ⟨a3, q3, rfl⟩ := own_form h3
                  go_wp2_with fail
                  go_meet
                  case rel => exact ⟨a3, q3, rfl, Lib.hid h3, Lib.hid hC⟩
                · go_simp
                  first | (have hri := ri_blk h0 (Value.string ⟨t.toArray⟩); clear h0) | have ha : Blk 9 (Wn.alloc (.cells #[Value.string ⟨t.toArray⟩] 9)) Wn.heap.size [Value.string ⟨t.toArray⟩] := Blk.new
                  replace hC := below_step hC (new_below Wn (.cells #[Value.string ⟨t.toArray⟩] 9))
                  generalize World.alloc _ _ = Wn at *
                  refine hK.out _ _ ?_ (fun hHeldX => ?_)
                  · exact HTE.out _ (hWB.trans (hC.mono hWB.size))
                  clear hK K hHeld
                  rename _ => hHeld
                  try simp only [Act.put, List.setIfInBounds_toArray, List.set_cons_zero, List.set_cons_succ]
                  refine wpAnyH_ready (rs := [4]) (by kernel_rfl) (by simp) ?_
                  refine AllReadyH.cons (o := ⟨some 82, _, _, _, _, _⟩) rfl (fun K hK => ?_) AllReadyH.nil
                  first | have hx := hri.own | have hx := h0
                  obtain ⟨v1, Wn, hr, hw, ho, hb⟩ := one_append Try.underlying22 hi0 hz0 hz1 hz2 rfl (by decide) Wn wi.heap.size 22 _ (.slice none 0 0) [] (((([] : List Pr).map Prod.fst).map keyV).take 0) hx (HRP.out _ (hWB.trans (hC.mono hWB.size))).1.1 (fun x hx => HKO.out x (List.mem_of_mem_take hx)) (by first | (simp; done) | (simp; omega)) hC.size
                  refine step_append_run rfl _ _ 22 rfl _ _ _ _ rfl rfl hr ?_
                  first | replace hri := hri.app ho hw hb | (clear h0; have h0 := hw)
                  replace hC := hC.trans (ho.below hC.size fun k hk e => by have := (own_lt hx e).1; omega)
                  clear hx hr hw ho hb
                  refine hK.out _ _ ?_ (fun hHeldX => ?_)
                  · exact HTE.out _ (hWB.trans (hC.mono hWB.size))
                  clear hK K hHeld
                  rename _ => hHeld
                  try simp only [Act.put, List.setIfInBounds_toArray, List.set_cons_zero, List.set_cons_succ]
                  refine wpAnyH_ready (rs := [10]) (by kernel_rfl) (by simp) ?_
                  refine AllReadyH.cons (o := ⟨some 88, _, _, _, _, _⟩) rfl (fun K hK => ?_) AllReadyH.nil
                  obtain ⟨v2, Wn, hr, hw, ho, hb⟩ := one_append Try.underlying22 hi0 hz0 hz1 hz2 rfl (by decide) Wn wi.heap.size 22 _ _ ([] ++ ((([] : List Pr).map Prod.fst).map keyV).take 0) [Value.string ⟨t.toArray⟩] hri.own (blk_slice hri.blk) (fun x hx => by rw [List.mem_singleton] at hx; subst hx; rfl) (by first | (simp; done) | (simp; omega)) hC.size
                  refine step_append_run rfl _ _ 22 rfl _ _ _ _ rfl rfl hr ?_
                  replace hC := hC.trans (ho.below hC.size fun k hk e => by have := (own_lt hri.own e).1; omega)
                  have h2 := hw
                  clear hr hw ho hb hri
                  refine hK.out _ _ ?_ (fun hHeldX => ?_)
                  · exact HTE.out _ (hWB.trans (hC.mono hWB.size))
                  clear hK K hHeld
                  rename _ => hHeld
                  try simp only [Act.put, List.setIfInBounds_toArray, List.set_cons_zero, List.set_cons_succ]
                  refine wpAnyH_ready (rs := [14]) (by kernel_rfl) (by simp) ?_
                  refine AllReadyH.cons (o := ⟨some 92, _, _, _, _, _⟩) rfl (fun K hK => ?_) AllReadyH.nil
                  obtain ⟨v3, Wn, hr, hw, ho, hb⟩ := one_append Try.underlying22 hi0 hz0 hz1 hz2 rfl (by decide) Wn wi.heap.size 22 _ (.slice none 0 0) ([] ++ ((([] : List Pr).map Prod.fst).map keyV).take 0 ++ [Value.string ⟨t.toArray⟩]) (((([] : List Pr).map Prod.fst).map keyV).drop 0) h2 (HRP.out _ (hWB.trans (hC.mono hWB.size))).1.2 (fun x hx => HKO.out x (List.mem_of_mem_drop hx)) (by first | (simp; done) | (simp; omega)) hC.size
                  refine step_append_run rfl _ _ 22 rfl _ _ _ _ rfl rfl hr ?_
                  replace hC := hC.trans (ho.below hC.size fun k hk e => by have := (own_lt h2 e).1; omega)
                  have h3 := hw
                  clear hr hw ho hb h2
                  refine hK.out _ _ ?_ (fun hHeldX => ?_)
                  · exact HTE.out _ (hWB.trans (hC.mono hWB.size))
                  clear hK K hHeld
                  rename _ => hHeld
                  try simp only [Act.put, List.setIfInBounds_toArray, List.set_cons_zero, List.set_cons_succ]
                  refine wpAnyH_take (i := 15) (oi := ⟨some 6, _, _, _, _, _⟩) (v := ?_) rfl (by kernel_rfl) (by kernel_rfl) (by kernel_rfl) (fun _ _ _ h => h) (Or.inl ⟨by rfl, ?_⟩) (by assumption) ?_
                  rotate_left
                  · (intro w hSw; (try dsimp only at hSw); go_simp; try with_reducible rfl)
                  try simp only [Act.put, List.setIfInBounds_toArray, List.set_cons_zero, List.set_cons_succ]
                  refine wpAnyH_done (by kernel_rfl) ?_ _
                  refine NoPanic.normal ?_
                  rw [show List.length (α := Value) (([] ++ ((([] : List Pr).map Prod.fst).map keyV).take 0 ++ [Value.string ⟨t.toArray⟩]) ++ ((([] : List Pr).map Prod.fst).map keyV).drop 0) = 0 + 1 by first | (simp; done) | (simp; omega)] at h3
                  obtain ⟨a3, q3, rfl⟩ := own_form h3
                  go_wp2_with fail
                  go_meet
                  case rel => exact ⟨a3, q3, rfl, Lib.hid h3, Lib.hid hC⟩
              · go_simp
                first | (have hri := ri_blk h0 (Value.string ⟨t.toArray⟩); clear h0) | have ha : Blk 9 (Wn.alloc (.cells #[Value.string ⟨t.toArray⟩] 9)) Wn.heap.size [Value.string ⟨t.toArray⟩] := Blk.new
                replace hC := below_step hC (new_below Wn (.cells #[Value.string ⟨t.toArray⟩] 9))
                generalize World.alloc _ _ = Wn at *
                refine hK.out _ _ ?_ (fun hHeldX => ?_)
                · exact HTE.out _ (hWB.trans (hC.mono hWB.size))
                clear hK K hHeld
                rename _ => hHeld
                try simp only [Act.put, List.setIfInBounds_toArray, List.set_cons_zero, List.set_cons_succ]
                refine wpAnyH_ready (rs := [0]) (by kernel_rfl) (by simp) ?_
                refine AllReadyH.cons (o := ⟨some 78, _, _, _, _, _⟩) rfl (fun K hK => ?_) AllReadyH.nil
                go_simp
                first | (have hri := ri_row ha hC.size; clear ha) | have h0 := own_start Wn wi.heap.size 9 hC.size
                replace hC := below_step hC (new_below Wn (.cells #[] 9))
                generalize World.alloc _ _ = Wn at *
                refine hK.out _ _ ?_ (fun hHeldX => ?_)
                · exact HTE.out _ (hWB.trans (hC.mono hWB.size))
                clear hK K hHeld
                rename _ => hHeld
                try simp only [Act.put, List.setIfInBounds_toArray, List.set_cons_zero, List.set_cons_succ]
                refine wpAnyH_ready (rs := [4]) (by kernel_rfl) (by simp) ?_
                refine AllReadyH.cons (o := ⟨some 82, _, _, _, _, _⟩) rfl (fun K hK => ?_) AllReadyH.nil
                first | have hx := hri.own | have hx := h0
                obtain ⟨v1, Wn, hr, hw, ho, hb⟩ := one_append Try.underlying22 hi0 hz0 hz1 hz2 rfl (by decide) Wn wi.heap.size 22 _ (.slice none 0 0) [] (((([] : List Pr).map Prod.fst).map keyV).take 0) hx (HRP.out _ (hWB.trans (hC.mono hWB.size))).1.1 (fun x hx => HKO.out x (List.mem_of_mem_take hx)) (by first | (simp; done) | (simp; omega)) hC.size
                refine step_append_run rfl _ _ 22 rfl _ _ _ _ rfl rfl hr ?_
                first | replace hri := hri.app ho hw hb | (clear h0; have h0 := hw)
                replace hC := hC.trans (ho.below hC.size fun k hk e => by have := (own_lt hx e).1; omega)
                clear hx hr hw ho hb
                refine hK.out _ _ ?_ (fun hHeldX => ?_)
                · exact HTE.out _ (hWB.trans (hC.mono hWB.size))
                clear hK K hHeld
                rename _ => hHeld
                try simp only [Act.put, List.setIfInBounds_toArray, List.set_cons_zero, List.set_cons_succ]
                refine wpAnyH_ready (rs := [10]) (by kernel_rfl) (by simp) ?_
                refine AllReadyH.cons (o := ⟨some 88, _, _, _, _, _⟩) rfl (fun K hK => ?_) AllReadyH.nil
                obtain ⟨v2, Wn, hr, hw, ho, hb⟩ := one_append Try.underlying22 hi0 hz0 hz1 hz2 rfl (by decide) Wn wi.heap.size 22 _ _ ([] ++ ((([] : List Pr).map Prod.fst).map keyV).take 0) [Value.string ⟨t.toArray⟩] hri.own (blk_slice hri.blk) (fun x hx => by rw [List.mem_singleton] at hx; subst hx; rfl) (by first | (simp; done) | (simp; omega)) hC.size
                refine step_append_run rfl _ _ 22 rfl _ _ _ _ rfl rfl hr ?_
                replace hC := hC.trans (ho.below hC.size fun k hk e => by have := (own_lt hri.own e).1; omega)
                have h2 := hw
                clear hr hw ho hb hri
                refine hK.out _ _ ?_ (fun hHeldX => ?_)
                · exact HTE.out _ (hWB.trans (hC.mono hWB.size))
                clear hK K hHeld
                rename _ => hHeld
                try simp only [Act.put, List.setIfInBounds_toArray, List.set_cons_zero, List.set_cons_succ]
                refine wpAnyH_ready (rs := [14]) (by kernel_rfl) (by simp) ?_
                refine AllReadyH.cons (o := ⟨some 92, _, _, _, _, _⟩) rfl (fun K hK => ?_) AllReadyH.nil
                obtain ⟨v3, Wn, hr, hw, ho, hb⟩ := one_append Try.underlying22 hi0 hz0 hz1 hz2 rfl (by decide) Wn wi.heap.size 22 _ (.slice none 0 0) ([] ++ ((([] : List Pr).map Prod.fst).map keyV).take 0 ++ [Value.string ⟨t.toArray⟩]) (((([] : List Pr).map Prod.fst).map keyV).drop 0) h2 (HRP.out _ (hWB.trans (hC.mono hWB.size))).1.2 (fun x hx => HKO.out x (List.mem_of_mem_drop hx)) (by first | (simp; done) | (simp; omega)) hC.size
                refine step_append_run rfl _ _ 22 rfl _ _ _ _ rfl rfl hr ?_
                replace hC := hC.trans (ho.below hC.size fun k hk e => by have := (own_lt h2 e).1; omega)
                have h3 := hw
                clear hr hw ho hb h2
                refine hK.out _ _ ?_ (fun hHeldX => ?_)
                · exact HTE.out _ (hWB.trans (hC.mono hWB.size))
                clear hK K hHeld
                rename _ => hHeld
                try simp only [Act.put, List.setIfInBounds_toArray, List.set_cons_zero, List.set_cons_succ]
                refine wpAnyH_take (i := 15) (oi := ⟨some 6, _, _, _, _, _⟩) (v := ?_) rfl (by kernel_rfl) (by kernel_rfl) (by kernel_rfl) (fun _ _ _ h => h) (Or.inl ⟨by rfl, ?_⟩) (by assumption) ?_
                rotate_left
                · (intro w hSw; (try dsimp only at hSw); go_simp; try with_reducible rfl)
                try simp only [Act.put, List.setIfInBounds_toArray, List.set_cons_zero, List.set_cons_succ]
                refine wpAnyH_done (by kernel_rfl) ?_ _
                refine NoPanic.normal ?_
                rw [show List.length (α := Value) (([] ++ ((([] : List Pr).map Prod.fst).map keyV).take 0 ++ [Value.string ⟨t.toArray⟩]) ++ ((([] : List Pr).map Prod.fst).map keyV).drop 0) = 0 + 1 by first | (simp; done) | (simp; omega)] at h3
                obtain ⟨a3, q3, rfl⟩ := own_form h3
                go_wp2_with fail
                go_meet
                case rel => exact ⟨a3, q3, rfl, Lib.hid h3, Lib.hid hC⟩
            case rest =>
              obtain ⟨a8, q8, rfl, HO1, HC1⟩ := hcut
              replace hWB := hWB.trans (HC1.out.mono hWB.size)
              generalize wc = wj at *
              go_wp2_with fail
              have hC : Below wj.heap.size wj wj.drew := (Below.refl _ _).drew
              refine wp_region_noPanic ?_
              refine wp_region_held_drew (S := (fun w' => w'.cell? ⟨b1, f1 + k, none⟩ = some (.string ⟨t.toArray⟩) ∧ w'.cell? ⟨b2, f2 + k, none⟩ = some (.int .i64 i))) (by kernel_rfl) ?_ (fun hHeld => ?_)
              · exact HTE.out _ (hWB.trans (hC.mono hWB.size))
              generalize wj.drew = Wn at hC hHeld ⊢
              refine wpAnyH_take (i := 1) (oi := ⟨some 94, _, _, _, _, _⟩) (v := ?_) rfl (by kernel_rfl) (by kernel_rfl) (by kernel_rfl) (fun _ _ _ h => h) (Or.inl ⟨by rfl, ?_⟩) (by assumption) ?_
              rotate_left
              · (intro w hSw; (try dsimp only at hSw); go_simp; try with_reducible rfl)
              try simp only [Act.put, List.setIfInBounds_toArray, List.set_cons_zero, List.set_cons_succ]
              refine wpAnyH_take (i := 2) (oi := ⟨some 95, _, _, _, _, _⟩) (v := ?_) rfl (by kernel_rfl) (by kernel_rfl) (by kernel_rfl) (fun _ _ _ h => h) (Or.inl ⟨by rfl, ?_⟩) (by assumption) ?_
              rotate_left
              · (intro w hSw; (try dsimp only at hSw); go_simp; try with_reducible rfl)
              try simp only [Act.put, List.setIfInBounds_toArray, List.set_cons_zero, List.set_cons_succ]
              refine wpAnyH_take (i := 3) (oi := ⟨some 96, _, _, _, _, _⟩) (v := ?_) rfl (by kernel_rfl) (by kernel_rfl) (by kernel_rfl) (fun _ _ _ h => h) (Or.inl ⟨by rfl, ?_⟩) (by assumption) ?_
              rotate_left
              · (intro w hSw; (try dsimp only at hSw); go_simp; try with_reducible rfl)
              try simp only [Act.put, List.setIfInBounds_toArray, List.set_cons_zero, List.set_cons_succ]
              refine wpAnyH_take (i := 5) (oi := ⟨some 98, _, _, _, _, _⟩) (v := ?_) rfl (by kernel_rfl) (by kernel_rfl) (by kernel_rfl) (fun _ _ _ h => h) (Or.inl ⟨by rfl, ?_⟩) (by assumption) ?_
              rotate_left
              · (intro w hSw; (try dsimp only at hSw); go_simp; try with_reducible rfl)
              try simp only [Act.put, List.setIfInBounds_toArray, List.set_cons_zero, List.set_cons_succ]
              refine wpAnyH_take (i := 6) (oi := ⟨some 99, _, _, _, _, _⟩) (v := ?_) rfl (by kernel_rfl) (by kernel_rfl) (by kernel_rfl) (fun _ _ _ h => h) (Or.inl ⟨by rfl, ?_⟩) (by assumption) ?_
              rotate_left
              · (intro w hSw; (try dsimp only at hSw); go_simp; try with_reducible rfl)
              try simp only [Act.put, List.setIfInBounds_toArray, List.set_cons_zero, List.set_cons_succ]
              refine wpAnyH_take (i := 7) (oi := ⟨some 100, _, _, _, _, _⟩) (v := ?_) rfl (by kernel_rfl) (by kernel_rfl) (by kernel_rfl) (fun _ _ _ h => h) (Or.inl ⟨by rfl, ?_⟩) (by assumption) ?_
              rotate_left
              · (intro w hSw; (try dsimp only at hSw); go_simp; try with_reducible rfl)
              try simp only [Act.put, List.setIfInBounds_toArray, List.set_cons_zero, List.set_cons_succ]
              refine wpAnyH_take (i := 8) (oi := ⟨some 101, _, _, _, _, _⟩) (v := ?_) rfl (by kernel_rfl) (by kernel_rfl) (by kernel_rfl) (fun _ _ _ h => h) (Or.inl ⟨by rfl, ?_⟩) (by assumption) ?_
              rotate_left
              · (intro w hSw; (try dsimp only at hSw); go_simp; try with_reducible rfl)
              try simp only [Act.put, List.setIfInBounds_toArray, List.set_cons_zero, List.set_cons_succ]
              refine wpAnyH_take (i := 11) (oi := ⟨some 104, _, _, _, _, _⟩) (v := ?_) rfl (by kernel_rfl) (by kernel_rfl) (by kernel_rfl) (fun _ _ _ h => h) (Or.inl ⟨by rfl, ?_⟩) (by assumption) ?_
              rotate_left
              · (intro w hSw; (try dsimp only at hSw); go_simp; try with_reducible rfl)
              try simp only [Act.put, List.setIfInBounds_toArray, List.set_cons_zero, List.set_cons_succ]
              refine wpAnyH_take (i := 12) (oi := ⟨some 105, _, _, _, _, _⟩) (v := ?_) rfl (by kernel_rfl) (by kernel_rfl) (by kernel_rfl) (fun _ _ _ h => h) (Or.inl ⟨by rfl, ?_⟩) (by assumption) ?_
              rotate_left
              · (intro w hSw; (try dsimp only at hSw); go_simp; try with_reducible rfl)
              try simp only [Act.put, List.setIfInBounds_toArray, List.set_cons_zero, List.set_cons_succ]
              refine wpAnyH_take (i := 13) (oi := ⟨some 106, _, _, _, _, _⟩) (v := ?_) rfl (by kernel_rfl) (by kernel_rfl) (by kernel_rfl) (fun _ _ _ h => h) (Or.inl ⟨by rfl, ?_⟩) (by assumption) ?_
              rotate_left
              · (intro w hSw; (try dsimp only at hSw); go_simp; try with_reducible rfl)
              try simp only [Act.put, List.setIfInBounds_toArray, List.set_cons_zero, List.set_cons_succ]
              refine wpAnyH_ready (rs := [0, 9]) (by kernel_rfl) (by simp) ?_
              refine AllReadyH.cons (o := ⟨some 93, _, _, _, _, _⟩) rfl (fun K hK => ?_) (AllReadyH.cons (o := ⟨some 102, _, _, _, _, _⟩) rfl (fun K hK => ?_) AllReadyH.nil)
              · go_simp
                first | (have hri := ri_row ha hC.size; clear ha) | have h0 := own_start Wn wj.heap.size 3 hC.size
                replace hC := below_step hC (new_below Wn (.cells #[] 3))
                generalize World.alloc _ _ = Wn at *
                refine hK.out _ _ ?_ (fun hHeldX => ?_)
                · exact HTE.out _ (hWB.trans (hC.mono hWB.size))
                clear hK K hHeld
                rename _ => hHeld
                try simp only [Act.put, List.setIfInBounds_toArray, List.set_cons_zero, List.set_cons_succ]
                refine wpAnyH_ready (rs := [4, 9]) (by kernel_rfl) (by simp) ?_
                refine AllReadyH.cons (o := ⟨some 97, _, _, _, _, _⟩) rfl (fun K hK => ?_) (AllReadyH.cons (o := ⟨some 102, _, _, _, _, _⟩) rfl (fun K hK => ?_) AllReadyH.nil)
                · first | have hx := hri.own | have hx := h0
                  obtain ⟨v1, Wn, hr, hw, ho, hb⟩ := one_append Try.underlying23 hj0 hy0 hy1 hy2 rfl (by decide) Wn wj.heap.size 23 _ (.slice none 0 0) [] (((([] : List Pr).map Prod.snd).map numV).take 0) hx (HRP.out _ (hWB.trans (hC.mono hWB.size))).2.1 (fun x hx => HNO.out x (List.mem_of_mem_take hx)) (by first | (simp; done) | (simp; omega)) hC.size
                  refine step_append_run rfl _ _ 23 rfl _ _ _ _ rfl rfl hr ?_
                  first | replace hri := hri.app ho hw hb | (clear h0; have h0 := hw)
                  replace hC := hC.trans (ho.below hC.size fun k hk e => by have := (own_lt hx e).1; omega)
                  clear hx hr hw ho hb
                  refine hK.out _ _ ?_ (fun hHeldX => ?_)
                  · exact HTE.out _ (hWB.trans (hC.mono hWB.size))
                  clear hK K hHeld
                  rename _ => hHeld
                  try simp only [Act.put, List.setIfInBounds_toArray, List.set_cons_zero, List.set_cons_succ]
                  refine wpAnyH_ready (rs := [9]) (by kernel_rfl) (by simp) ?_
                  refine AllReadyH.cons (o := ⟨some 102, _, _, _, _, _⟩) rfl (fun K hK => ?_) AllReadyH.nil
                  go_simp
                  first | (have hri := ri_blk h0 (Value.int .i64 i); clear h0) | have ha : Blk 3 (Wn.alloc (.cells #[Value.int .i64 i] 3)) Wn.heap.size [Value.int .i64 i] := Blk.new
                  replace hC := below_step hC (new_below Wn (.cells #[Value.int .i64 i] 3))
                  generalize World.alloc _ _ = Wn at *
                  refine hK.out _ _ ?_ (fun hHeldX => ?_)
                  · exact HTE.out _ (hWB.trans (hC.mono hWB.size))
                  clear hK K hHeld
                  rename _ => hHeld
                  try simp only [Act.put, List.setIfInBounds_toArray, List.set_cons_zero, List.set_cons_succ]
                  refine wpAnyH_ready (rs := [10]) (by kernel_rfl) (by simp) ?_
                  refine AllReadyH.cons (o := ⟨some 103, _, _, _, _, _⟩) rfl (fun K hK => ?_) AllReadyH.nil
                  obtain ⟨v2, Wn, hr, hw, ho, hb⟩ := one_append Try.underlying23 hj0 hy0 hy1 hy2 rfl (by decide) Wn wj.heap.size 23 _ _ ([] ++ ((([] : List Pr).map Prod.snd).map numV).take 0) [Value.int .i64 i] hri.own (blk_slice hri.blk) (fun x hx => by rw [List.mem_singleton] at hx; subst hx; rfl) (by first | (simp; done) | (simp; omega)) hC.size
                  refine step_append_run rfl _ _ 23 rfl _ _ _ _ rfl rfl hr ?_
                  replace hC := hC.trans (ho.below hC.size fun k hk e => by have := (own_lt hri.own e).1; omega)
                  have h2 := hw
                  clear hr hw ho hb hri
                  refine hK.out _ _ ?_ (fun hHeldX => ?_)
                  · exact HTE.out _ (hWB.trans (hC.mono hWB.size))
                  clear hK K hHeld
                  rename _ => hHeld
                  try simp only [Act.put, List.setIfInBounds_toArray, List.set_cons_zero, List.set_cons_succ]
                  refine wpAnyH_ready (rs := [14]) (by kernel_rfl) (by simp) ?_
                  refine AllReadyH.cons (o := ⟨some 107, _, _, _, _, _⟩) rfl (fun K hK => ?_) AllReadyH.nil
                  obtain ⟨v3, Wn, hr, hw, ho, hb⟩ := one_append Try.underlying23 hj0 hy0 hy1 hy2 rfl (by decide) Wn wj.heap.size 23 _ (.slice none 0 0) ([] ++ ((([] : List Pr).map Prod.snd).map numV).take 0 ++ [Value.int .i64 i]) (((([] : List Pr).map Prod.snd).map numV).drop 0) h2 (HRP.out _ (hWB.trans (hC.mono hWB.size))).2.2 (fun x hx => HNO.out x (List.mem_of_mem_drop hx)) (by first | (simp; done) | (simp; omega)) hC.size
                  refine step_append_run rfl _ _ 23 rfl _ _ _ _ rfl rfl hr ?_
                  replace hC := hC.trans (ho.below hC.size fun k hk e => by have := (own_lt h2 e).1; omega)
                  have h3 := hw
                  clear hr hw ho hb h2
                  refine hK.out _ _ ?_ (fun hHeldX => ?_)
                  · exact HTE.out _ (hWB.trans (hC.mono hWB.size))
                  clear hK K hHeld
                  rename _ => hHeld
                  try simp only [Act.put, List.setIfInBounds_toArray, List.set_cons_zero, List.set_cons_succ]
                  refine wpAnyH_take (i := 15) (oi := ⟨some 7, _, _, _, _, _⟩) (v := ?_) rfl (by kernel_rfl) (by kernel_rfl) (by kernel_rfl) (fun _ _ _ h => h) (Or.inl ⟨by rfl, ?_⟩) (by assumption) ?_
                  rotate_left
                  · (intro w hSw; (try dsimp only at hSw); go_simp; try with_reducible rfl)
                  try simp only [Act.put, List.setIfInBounds_toArray, List.set_cons_zero, List.set_cons_succ]
                  refine wpAnyH_done (by kernel_rfl) ?_ _
                  refine NoPanic.normal ?_
                  rw [show List.length (α := Value) (([] ++ ((([] : List Pr).map Prod.snd).map numV).take 0 ++ [Value.int .i64 i]) ++ ((([] : List Pr).map Prod.snd).map numV).drop 0) = 0 + 1 by first | (simp; done) | (simp; omega)] at h3
                  obtain ⟨a4, q4, rfl⟩ := own_form h3
                  obtain ⟨hli, hps⟩ := rps_ins (x := (t, i)) (L := ([] : List Pr)) (j := 0) HWI.out HIZ.out HO1.out HC1.out h3 hC
                  have HPS := Lib.hid hps
                  have HLI := Lib.hid hli
                  have HNE : Hid (insZ (t, i) ([] : List Pr) = [] → a8 = none ∧ q8 = 0 ∧ a4 = none ∧ q4 = 0) := Lib.hid fun e => by rw [e] at hli; simp at hli
                  clear hps hli h3 hC
                  go_wp2_with fail
                  go_roundw
                  case rel => exact ⟨k + 1, insZ (t, i) ([] : List Pr), a8, a4, q8, q4, by omega, by rw [HLI.out]; rfl, by rw [HLI.out]; rfl, by go_num, Lib.hid HIN.out.symm, HNE, by rw [HLI.out]; exact HPS⟩
                  case measure => simp [intOf]; omega
                · go_simp
                  first | (have hri := ri_blk h0 (Value.int .i64 i); clear h0) | have ha : Blk 3 (Wn.alloc (.cells #[Value.int .i64 i] 3)) Wn.heap.size [Value.int .i64 i] := Blk.new
                  replace hC := below_step hC (new_below Wn (.cells #[Value.int .i64 i] 3))
                  generalize World.alloc _ _ = Wn at *
                  refine hK.out _ _ ?_ (fun hHeldX => ?_)
                  · exact HTE.out _ (hWB.trans (hC.mono hWB.size))
                  clear hK K hHeld
                  rename _ => hHeld
                  try simp only [Act.put, List.setIfInBounds_toArray, List.set_cons_zero, List.set_cons_succ]
                  refine wpAnyH_ready (rs := [4]) (by kernel_rfl) (by simp) ?_
                  refine AllReadyH.cons (o := ⟨some 97, _, _, _, _, _⟩) rfl (fun K hK => ?_) AllReadyH.nil
                  first | have hx := hri.own | have hx := h0
                  obtain ⟨v1, Wn, hr, hw, ho, hb⟩ := one_append Try.underlying23 hj0 hy0 hy1 hy2 rfl (by decide) Wn wj.heap.size 23 _ (.slice none 0 0) [] (((([] : List Pr).map Prod.snd).map numV).take 0) hx (HRP.out _ (hWB.trans (hC.mono hWB.size))).2.1 (fun x hx => HNO.out x (List.mem_of_mem_take hx)) (by first | (simp; done) | (simp; omega)) hC.size
                  refine step_append_run rfl _ _ 23 rfl _ _ _ _ rfl rfl hr ?_
                  first | replace hri := hri.app ho hw hb | (clear h0; have h0 := hw)
                  replace hC := hC.trans (ho.below hC.size fun k hk e => by have := (own_lt hx e).1; omega)
                  clear hx hr hw ho hb
                  refine hK.out _ _ ?_ (fun hHeldX => ?_)
                  · exact HTE.out _ (hWB.trans (hC.mono hWB.size))
                  clear hK K hHeld
                  rename _ => hHeld
                  try simp only [Act.put, List.setIfInBounds_toArray, List.set_cons_zero, List.set_cons_succ]
                  refine wpAnyH_ready (rs := [10]) (by kernel_rfl) (by simp) ?_
                  refine AllReadyH.cons (o := ⟨some 103, _, _, _, _, _⟩) rfl (fun K hK => ?_) AllReadyH.nil
                  obtain ⟨v2, Wn, hr, hw, ho, hb⟩ := one_append Try.underlying23 hj0 hy0 hy1 hy2 rfl (by decide) Wn wj.heap.size 23 _ _ ([] ++ ((([] : List Pr).map Prod.snd).map numV).take 0) [Value.int .i64 i] hri.own (blk_slice hri.blk) (fun x hx => by rw [List.mem_singleton] at hx; subst hx; rfl) (by first | (simp; done) | (simp; omega)) hC.size
                  refine step_append_run rfl _ _ 23 rfl _ _ _ _ rfl rfl hr ?_
                  replace hC := hC.trans (ho.below hC.size fun k hk e => by have := (own_lt hri.own e).1; omega)
                  have h2 := hw
                  clear hr hw ho hb hri
                  refine hK.out _ _ ?_ (fun hHeldX => ?_)
                  · exact HTE.out _ (hWB.trans (hC.mono hWB.size))
                  clear hK K hHeld
                  rename _ => hHeld
                  try simp only [Act.put, List.setIfInBounds_toArray, List.set_cons_zero, List.set_cons_succ]
                  refine wpAnyH_ready (rs := [14]) (by kernel_rfl) (by simp) ?_
                  refine AllReadyH.cons (o := ⟨some 107, _, _, _, _, _⟩) rfl (fun K hK => ?_) AllReadyH.nil
                  obtain ⟨v3, Wn, hr, hw, ho, hb⟩ := one_append Try.underlying23 hj0 hy0 hy1 hy2 rfl (by decide) Wn wj.heap.size 23 _ (.slice none 0 0) ([] ++ ((([] : List Pr).map Prod.snd).map numV).take 0 ++ [Value.int .i64 i]) (((([] : List Pr).map Prod.snd).map numV).drop 0) h2 (HRP.out _ (hWB.trans (hC.mono hWB.size))).2.2 (fun x hx => HNO.out x (List.mem_of_mem_drop hx)) (by first | (simp; done) | (simp; omega)) hC.size
                  refine step_append_run rfl _ _ 23 rfl _ _ _ _ rfl rfl hr ?_
                  replace hC := hC.trans (ho.below hC.size fun k hk e => by have := (own_lt h2 e).1; omega)
                  have h3 := hw
                  clear hr hw ho hb h2
                  refine hK.out _ _ ?_ (fun hHeldX => ?_)
                  · exact HTE.out _ (hWB.trans (hC.mono hWB.size))
                  clear hK K hHeld
                  rename _ => hHeld
                  try simp only [Act.put, List.setIfInBounds_toArray, List.set_cons_zero, List.set_cons_succ]
                  refine wpAnyH_take (i := 15) (oi := ⟨some 7, _, _, _, _, _⟩) (v := ?_) rfl (by kernel_rfl) (by kernel_rfl) (by kernel_rfl) (fun _ _ _ h => h) (Or.inl ⟨by rfl, ?_⟩) (by assumption) ?_
                  rotate_left
                  · (intro w hSw; (try dsimp only at hSw); go_simp; try with_reducible rfl)
                  try simp only [Act.put, List.setIfInBounds_toArray, List.set_cons_zero, List.set_cons_succ]
                  refine wpAnyH_done (by kernel_rfl) ?_ _
                  refine NoPanic.normal ?_
                  rw [show List.length (α := Value) (([] ++ ((([] : List Pr).map Prod.snd).map numV).take 0 ++ [Value.int .i64 i]) ++ ((([] : List Pr).map Prod.snd).map numV).drop 0) = 0 + 1 by first | (simp; done) | (simp; omega)] at h3
                  obtain ⟨a4, q4, rfl⟩ := own_form h3
                  obtain ⟨hli, hps⟩ := rps_ins (x := (t, i)) (L := ([] : List Pr)) (j := 0) HWI.out HIZ.out HO1.out HC1.out h3 hC
                  have HPS := Lib.hid hps
                  have HLI := Lib.hid hli
                  have HNE : Hid (insZ (t, i) ([] : List Pr) = [] → a8 = none ∧ q8 = 0 ∧ a4 = none ∧ q4 = 0) := Lib.hid fun e => by rw [e] at hli; simp at hli
                  clear hps hli h3 hC
                  go_wp2_with fail
                  go_roundw
                  case rel => exact ⟨k + 1, insZ (t, i) ([] : List Pr), a8, a4, q8, q4, by omega, by rw [HLI.out]; rfl, by rw [HLI.out]; rfl, by go_num, Lib.hid HIN.out.symm, HNE, by rw [HLI.out]; exact HPS⟩
                  case measure => simp [intOf]; omega
              · go_simp
                first | (have hri := ri_blk h0 (Value.int .i64 i); clear h0) | have ha : Blk 3 (Wn.alloc (.cells #[Value.int .i64 i] 3)) Wn.heap.size [Value.int .i64 i] := Blk.new
                replace hC := below_step hC (new_below Wn (.cells #[Value.int .i64 i] 3))
                generalize World.alloc _ _ = Wn at *
                refine hK.out _ _ ?_ (fun hHeldX => ?_)
                · exact HTE.out _ (hWB.trans (hC.mono hWB.size))
                clear hK K hHeld
                rename _ => hHeld
                try simp only [Act.put, List.setIfInBounds_toArray, List.set_cons_zero, List.set_cons_succ]
                refine wpAnyH_ready (rs := [0]) (by kernel_rfl) (by simp) ?_
                refine AllReadyH.cons (o := ⟨some 93, _, _, _, _, _⟩) rfl (fun K hK => ?_) AllReadyH.nil
                go_simp
                first | (have hri := ri_row ha hC.size; clear ha) | have h0 := own_start Wn wj.heap.size 3 hC.size
                replace hC := below_step hC (new_below Wn (.cells #[] 3))
                generalize World.alloc _ _ = Wn at *
                refine hK.out _ _ ?_ (fun hHeldX => ?_)
                · exact HTE.out _ (hWB.trans (hC.mono hWB.size))
                clear hK K hHeld
                rename _ => hHeld
                try simp only [Act.put, List.setIfInBounds_toArray, List.set_cons_zero, List.set_cons_succ]
                refine wpAnyH_ready (rs := [4]) (by kernel_rfl) (by simp) ?_
                refine AllReadyH.cons (o := ⟨some 97, _, _, _, _, _⟩) rfl (fun K hK => ?_) AllReadyH.nil
                first | have hx := hri.own | have hx := h0
                obtain ⟨v1, Wn, hr, hw, ho, hb⟩ := one_append Try.underlying23 hj0 hy0 hy1 hy2 rfl (by decide) Wn wj.heap.size 23 _ (.slice none 0 0) [] (((([] : List Pr).map Prod.snd).map numV).take 0) hx (HRP.out _ (hWB.trans (hC.mono hWB.size))).2.1 (fun x hx => HNO.out x (List.mem_of_mem_take hx)) (by first | (simp; done) | (simp; omega)) hC.size
                refine step_append_run rfl _ _ 23 rfl _ _ _ _ rfl rfl hr ?_
                first | replace hri := hri.app ho hw hb | (clear h0; have h0 := hw)
                replace hC := hC.trans (ho.below hC.size fun k hk e => by have := (own_lt hx e).1; omega)
                clear hx hr hw ho hb
                refine hK.out _ _ ?_ (fun hHeldX => ?_)
                · exact HTE.out _ (hWB.trans (hC.mono hWB.size))
                clear hK K hHeld
                rename _ => hHeld
                try simp only [Act.put, List.setIfInBounds_toArray, List.set_cons_zero, List.set_cons_succ]
                refine wpAnyH_ready (rs := [10]) (by kernel_rfl) (by simp) ?_
                refine AllReadyH.cons (o := ⟨some 103, _, _, _, _, _⟩) rfl (fun K hK => ?_) AllReadyH.nil
                obtain ⟨v2, Wn, hr, hw, ho, hb⟩ := one_append Try.underlying23 hj0 hy0 hy1 hy2 rfl (by decide) Wn wj.heap.size 23 _ _ ([] ++ ((([] : List Pr).map Prod.snd).map numV).take 0) [Value.int .i64 i] hri.own (blk_slice hri.blk) (fun x hx => by rw [List.mem_singleton] at hx; subst hx; rfl) (by first | (simp; done) | (simp; omega)) hC.size
                refine step_append_run rfl _ _ 23 rfl _ _ _ _ rfl rfl hr ?_
                replace hC := hC.trans (ho.below hC.size fun k hk e => by have := (own_lt hri.own e).1; omega)
                have h2 := hw
                clear hr hw ho hb hri
                refine hK.out _ _ ?_ (fun hHeldX => ?_)
                · exact HTE.out _ (hWB.trans (hC.mono hWB.size))
                clear hK K hHeld
                rename _ => hHeld
                try simp only [Act.put, List.setIfInBounds_toArray, List.set_cons_zero, List.set_cons_succ]
                refine wpAnyH_ready (rs := [14]) (by kernel_rfl) (by simp) ?_
                refine AllReadyH.cons (o := ⟨some 107, _, _, _, _, _⟩) rfl (fun K hK => ?_) AllReadyH.nil
                obtain ⟨v3, Wn, hr, hw, ho, hb⟩ := one_append Try.underlying23 hj0 hy0 hy1 hy2 rfl (by decide) Wn wj.heap.size 23 _ (.slice none 0 0) ([] ++ ((([] : List Pr).map Prod.snd).map numV).take 0 ++ [Value.int .i64 i]) (((([] : List Pr).map Prod.snd).map numV).drop 0) h2 (HRP.out _ (hWB.trans (hC.mono hWB.size))).2.2 (fun x hx => HNO.out x (List.mem_of_mem_drop hx)) (by first | (simp; done) | (simp; omega)) hC.size
                refine step_append_run rfl _ _ 23 rfl _ _ _ _ rfl rfl hr ?_
                replace hC := hC.trans (ho.below hC.size fun k hk e => by have := (own_lt h2 e).1; omega)
                have h3 := hw
                clear hr hw ho hb h2
                refine hK.out _ _ ?_ (fun hHeldX => ?_)
                · exact HTE.out _ (hWB.trans (hC.mono hWB.size))
                clear hK K hHeld
                rename _ => hHeld
                try simp only [Act.put, List.setIfInBounds_toArray, List.set_cons_zero, List.set_cons_succ]
                refine wpAnyH_take (i := 15) (oi := ⟨some 7, _, _, _, _, _⟩) (v := ?_) rfl (by kernel_rfl) (by kernel_rfl) (by kernel_rfl) (fun _ _ _ h => h) (Or.inl ⟨by rfl, ?_⟩) (by assumption) ?_
                rotate_left
                · (intro w hSw; (try dsimp only at hSw); go_simp; try with_reducible rfl)
                try simp only [Act.put, List.setIfInBounds_toArray, List.set_cons_zero, List.set_cons_succ]
                refine wpAnyH_done (by kernel_rfl) ?_ _
                refine NoPanic.normal ?_
                rw [show List.length (α := Value) (([] ++ ((([] : List Pr).map Prod.snd).map numV).take 0 ++ [Value.int .i64 i]) ++ ((([] : List Pr).map Prod.snd).map numV).drop 0) = 0 + 1 by first | (simp; done) | (simp; omega)] at h3
                obtain ⟨a4, q4, rfl⟩ := own_form h3
                obtain ⟨hli, hps⟩ := rps_ins (x := (t, i)) (L := ([] : List Pr)) (j := 0) HWI.out HIZ.out HO1.out HC1.out h3 hC
                have HPS := Lib.hid hps
                have HLI := Lib.hid hli
                have HNE : Hid (insZ (t, i) ([] : List Pr) = [] → a8 = none ∧ q8 = 0 ∧ a4 = none ∧ q4 = 0) := Lib.hid fun e => by rw [e] at hli; simp at hli
                clear hps hli h3 hC
                go_wp2_with fail
                go_roundw
                case rel => exact ⟨k + 1, insZ (t, i) ([] : List Pr), a8, a4, q8, q4, by omega, by rw [HLI.out]; rfl, by rw [HLI.out]; rfl, by go_num, Lib.hid HIN.out.symm, HNE, by rw [HLI.out]; exact HPS⟩
                case measure => simp [intOf]; omega
        · have hLp : 0 < L.length := by omega
          obtain ⟨g, cq, ev, hgb, hgl, hcl, hcell⟩ := own_cellN hLp ST.out.rv
          cases ev
          obtain ⟨g', cq', ev, hgb', hgl', hcl', hcell'⟩ := own_cellN hLp ST.out.ru
          cases ev
          have HCL : Hid (∀ (q : Nat) y, L[q]? = some y → wo.cell? ⟨g, q, none⟩ = some (.string ⟨y.1.toArray⟩) ∧ wo.cell? ⟨g', q, none⟩ = some (.int .i64 y.2)) := Lib.hid fun q y hy =>
            ⟨hcell q _ (by rw [List.getElem?_map, List.getElem?_map, hy]; rfl), hcell' q _ (by rw [List.getElem?_map, List.getElem?_map, hy]; rfl)⟩
          clear hcell hcell'
          go_wp2_with fail
          go_loopw [9] (fun at_ wx => ∃ j : Nat, j ≤ L.length ∧ at_ = .int .i64 (j : Int) ∧ Hid (∀ (q : Nat) y, q < j → L[q]? = some y → ahZ y (t, i) = true) ∧ Hid (Below wo.heap.size wo wx)) (fun at_ _ => L.length - (intOf at_).toNat)
          case atStart => exact ⟨0, Nat.zero_le _, rfl, Lib.hid (fun q y h _ => by omega), Lib.hid (Below.refl _ _)⟩
          case round =>
            obtain ⟨j, hj, rfl, HPJ, HBX⟩ := hrel
            have hC := HBX.out.drew
            have hjL : j ≤ L.length := hj
            have HRP : Hid (∀ w', Below wo.heap.size wo w' → (SliceK w' 1 (.slice (some ⟨g, 0, none⟩) j c) (((L.map Prod.fst).map keyV).take j).length (((L.map Prod.fst).map keyV).take j) ∧ SliceK w' 1 (.slice (some ⟨g, j, none⟩) (L.length - j) (c - j)) (((L.map Prod.fst).map keyV).drop j).length (((L.map Prod.fst).map keyV).drop j)) ∧
                (SliceK w' 1 (.slice (some ⟨g', 0, none⟩) j c') (((L.map Prod.snd).map numV).take j).length (((L.map Prod.snd).map numV).take j) ∧ SliceK w' 1 (.slice (some ⟨g', j, none⟩) (L.length - j) (c' - j)) (((L.map Prod.snd).map numV).drop j).length (((L.map Prod.snd).map numV).drop j))) := Lib.hid fun w' h => by
              have h1 := ST.out.below h
              exact ⟨⟨row_take h1.rv hj, row_drop h1.rv hj⟩, ⟨row_take h1.ru hj, row_drop h1.ru hj⟩⟩
            by_cases hjl : j < L.length
            · obtain ⟨y, hy⟩ : ∃ y, L[j]? = some y := ⟨_, List.getElem?_eq_getElem hjl⟩
              obtain ⟨yt, yi⟩ := y
              have hyt := HLy.out _ (List.mem_of_getElem? hy)
              dsimp only at hyt
              have hjI : (j : Int) < (L.length : Int) := by omega
              have SK : Hid (∀ w', Below wo.heap.size wo w' → (w'.cell? ⟨g, j, none⟩ = some (.string ⟨yt.toArray⟩) ∧ w'.cell? ⟨g', j, none⟩ = some (.int .i64 yi)) ∧ (w'.cell? ⟨b1, f1 + k, none⟩ = some (.string ⟨t.toArray⟩) ∧ w'.cell? ⟨b2, f2 + k, none⟩ = some (.int .i64 i))) := Lib.hid fun w' h =>
                ⟨⟨(h.cell (p := ⟨g, j, none⟩) hgl).trans (HCL.out j _ hy).1, (h.cell (p := ⟨g', j, none⟩) hgl').trans (HCL.out j _ hy).2⟩, HTE.out w' h⟩
              cases hah : ahZ (yt, yi) (t, i)
              · have HAH : Hid (∀ w, Calls Try.prog 18 #[.string ⟨yt.toArray⟩, .int .i64 yi, .string ⟨t.toArray⟩, .int .i64 i] w fun e w' => e = .returned (.bool false) ∧ Below w.heap.size w w') := Lib.hid fun w => by
                  rw [← hah]; exact ref_Ahead yt t yi i w (by omega) (by omega)
                have hpl : plc (fun y => ahZ y (t, i)) L = j := (plc_of _ L j hj (fun q y hq hy => HPJ.out q y hq hy) fun y hy2 => by rw [hy] at hy2; injection hy2 with hy2; rw [← hy2]; exact hah).symm
                have HIZ0 : Hid (insZ (t, i) L = if (some (yt, yi) : Option Pr) = some (t, i) then L else L.take j ++ (t, i) :: L.drop j) := Lib.hid (by rw [insZ_plc, hpl, hy])
                have hcj : ¬ c = j := by omega
                have hcj' : ¬ c' = j := by omega
                have hjc : j ≤ c := by omega
                have hjc' : j ≤ c' := by omega
                clear hy hah hpl
                go_wp2_with fail
                refine wp_region_noPanic ?_
                refine wp_region_held_drew (S := (fun w' => (w'.cell? ⟨g, j, none⟩ = some (.string ⟨yt.toArray⟩) ∧ w'.cell? ⟨g', j, none⟩ = some (.int .i64 yi)) ∧ (w'.cell? ⟨b1, f1 + k, none⟩ = some (.string ⟨t.toArray⟩) ∧ w'.cell? ⟨b2, f2 + k, none⟩ = some (.int .i64 i)))) (by kernel_rfl) ?_ (fun hHeld => ?_)
                · exact SK.out _ hC
                refine wpAnyH_take (i := 0) (oi := ⟨some 27, _, _, _, _, _⟩) (v := ?_) rfl (by kernel_rfl) (by kernel_rfl) (by kernel_rfl) (fun _ _ _ h => h) (Or.inl ⟨by rfl, ?_⟩) (by assumption) ?_
                rotate_left
                · (intro w hSw; (try dsimp only at hSw); go_simp; try with_reducible rfl)
                try simp only [Act.put, List.setIfInBounds_toArray, List.set_cons_zero, List.set_cons_succ]
                refine wpAnyH_take (i := 1) (oi := ⟨some 28, _, _, _, _, _⟩) (v := ?_) rfl (by kernel_rfl) (by kernel_rfl) (by kernel_rfl) (fun _ _ _ h => h) (Or.inl ⟨by rfl, ?_⟩) (by assumption) ?_
                rotate_left
                · (intro w hSw; (try dsimp only at hSw); go_simp; try with_reducible rfl)
                try simp only [Act.put, List.setIfInBounds_toArray, List.set_cons_zero, List.set_cons_succ]
                refine wpAnyH_take (i := 2) (oi := ⟨some 29, _, _, _, _, _⟩) (v := ?_) rfl (by kernel_rfl) (by kernel_rfl) (by kernel_rfl) (fun _ _ _ h => h) (Or.inl ⟨by rfl, ?_⟩) (by assumption) ?_
                rotate_left
                · (intro w hSw; (try dsimp only at hSw); go_simp; try with_reducible rfl)
                try simp only [Act.put, List.setIfInBounds_toArray, List.set_cons_zero, List.set_cons_succ]
                refine wpAnyH_take (i := 3) (oi := ⟨some 30, _, _, _, _, _⟩) (v := ?_) rfl (by kernel_rfl) (by kernel_rfl) (by kernel_rfl) (fun _ _ _ h => h) (Or.inl ⟨by rfl, ?_⟩) (by assumption) ?_
                rotate_left
                · (intro w hSw; (try dsimp only at hSw); go_simp; try with_reducible rfl)
                try simp only [Act.put, List.setIfInBounds_toArray, List.set_cons_zero, List.set_cons_succ]
                refine wpAnyH_take (i := 4) (oi := ⟨some 31, _, _, _, _, _⟩) (v := ?_) rfl (by kernel_rfl) (by kernel_rfl) (by kernel_rfl) (fun _ _ _ h => h) (Or.inl ⟨by rfl, ?_⟩) (by assumption) ?_
                rotate_left
                · (intro w hSw; (try dsimp only at hSw); go_simp; try with_reducible rfl)
                try simp only [Act.put, List.setIfInBounds_toArray, List.set_cons_zero, List.set_cons_succ]
                refine wpAnyH_take (i := 5) (oi := ⟨some 32, _, _, _, _, _⟩) (v := ?_) rfl (by kernel_rfl) (by kernel_rfl) (by kernel_rfl) (fun _ _ _ h => h) (Or.inl ⟨by rfl, ?_⟩) (by assumption) ?_
                rotate_left
                · (intro w hSw; (try dsimp only at hSw); go_simp; try with_reducible rfl)
                try simp only [Act.put, List.setIfInBounds_toArray, List.set_cons_zero, List.set_cons_succ]
                refine wpAnyH_take (i := 6) (oi := ⟨some 33, _, _, _, _, _⟩) (v := ?_) rfl (by kernel_rfl) (by kernel_rfl) (by kernel_rfl) (fun _ _ _ h => h) (Or.inl ⟨by rfl, ?_⟩) (by assumption) ?_
                rotate_left
                · (intro w hSw; (try dsimp only at hSw); go_simp; try with_reducible rfl)
                try simp only [Act.put, List.setIfInBounds_toArray, List.set_cons_zero, List.set_cons_succ]
                refine wpAnyH_take (i := 7) (oi := ⟨some 34, _, _, _, _, _⟩) (v := ?_) rfl (by kernel_rfl) (by kernel_rfl) (by kernel_rfl) (fun _ _ _ h => h) (Or.inl ⟨by rfl, ?_⟩) (by assumption) ?_
                rotate_left
                · (intro w hSw; (try dsimp only at hSw); go_simp; try with_reducible rfl)
                try simp only [Act.put, List.setIfInBounds_toArray, List.set_cons_zero, List.set_cons_succ]
                refine wpAnyH_take (i := 8) (oi := ⟨some 35, _, _, _, _, _⟩) (v := ?_) rfl (by kernel_rfl) (by kernel_rfl) (by kernel_rfl) (fun _ _ _ h => h) (Or.inl ⟨by rfl, ?_⟩) (by assumption) ?_
                rotate_left
                · (intro w hSw; (try dsimp only at hSw); go_simp; try with_reducible rfl)
                try simp only [Act.put, List.setIfInBounds_toArray, List.set_cons_zero, List.set_cons_succ]
                refine wpAnyH_take (i := 9) (oi := ⟨some 36, _, _, _, _, _⟩) (v := ?_) rfl (by kernel_rfl) (by kernel_rfl) (by kernel_rfl) (fun _ _ _ h => h) (Or.inl ⟨by rfl, ?_⟩) (by assumption) ?_
                rotate_left
                · (intro w hSw; (try dsimp only at hSw); go_simp; try with_reducible rfl)
                try simp only [Act.put, List.setIfInBounds_toArray, List.set_cons_zero, List.set_cons_succ]
                refine wpAnyH_take (i := 10) (oi := ⟨some 37, _, _, _, _, _⟩) (v := ?_) rfl (by kernel_rfl) (by kernel_rfl) (by kernel_rfl) (fun _ _ _ h => h) (Or.inl ⟨by rfl, ?_⟩) (by assumption) ?_
                rotate_left
                · (intro w hSw; (try dsimp only at hSw); go_simp; try with_reducible rfl)
                try simp only [Act.put, List.setIfInBounds_toArray, List.set_cons_zero, List.set_cons_succ]
                refine wpAnyH_take (i := 11) (oi := ⟨some 38, _, _, _, _, _⟩) (v := ?_) rfl (by kernel_rfl) (by kernel_rfl) (by kernel_rfl) (fun _ _ _ h => h) (Or.inl ⟨by rfl, ?_⟩) (by assumption) ?_
                rotate_left
                · (intro w hSw; (try dsimp only at hSw); go_simp; try with_reducible rfl)
                try simp only [Act.put, List.setIfInBounds_toArray, List.set_cons_zero, List.set_cons_succ]
                refine wpAnyH_take (i := 12) (oi := ⟨some 39, _, _, _, _, _⟩) (v := ?_) rfl (by kernel_rfl) (by kernel_rfl) (by kernel_rfl) (fun _ _ _ h => h) (Or.inl ⟨by rfl, ?_⟩) (by assumption) ?_
                rotate_left
                · (intro w hSw; (try dsimp only at hSw); go_simp; try with_reducible rfl)
                try simp only [Act.put, List.setIfInBounds_toArray, List.set_cons_zero, List.set_cons_succ]
                refine wpAnyH_take (i := 13) (oi := ⟨some 40, _, _, _, _, _⟩) (v := ?_) rfl (by kernel_rfl) (by kernel_rfl) (by kernel_rfl) (fun _ _ _ h => h) (Or.inl ⟨by rfl, ?_⟩) (by assumption) ?_
                rotate_left
                · (intro w hSw; (try dsimp only at hSw); go_simp; try with_reducible rfl)
                try simp only [Act.put, List.setIfInBounds_toArray, List.set_cons_zero, List.set_cons_succ]
                refine wpAnyH_take (i := 14) (oi := ⟨some 41, _, _, _, _, _⟩) (v := ?_) rfl (by kernel_rfl) (by kernel_rfl) (by kernel_rfl) (fun _ _ _ h => h) (Or.inl ⟨by rfl, ?_⟩) (by assumption) ?_
                rotate_left
                · (intro w hSw; (try dsimp only at hSw); go_simp; try with_reducible rfl)
                try simp only [Act.put, List.setIfInBounds_toArray, List.set_cons_zero, List.set_cons_succ]
                refine wpAnyH_take (i := 15) (oi := ⟨some 42, _, _, _, _, _⟩) (v := ?_) rfl (by kernel_rfl) (by kernel_rfl) (by kernel_rfl) (fun _ _ _ h => h) (Or.inl ⟨by rfl, ?_⟩) (by assumption) ?_
                rotate_left
                · (intro w hSw; (try dsimp only at hSw); go_simp; try with_reducible rfl)
                try simp only [Act.put, List.setIfInBounds_toArray, List.set_cons_zero, List.set_cons_succ]
                refine wpAnyH_take (i := 16) (oi := ⟨some 43, _, _, _, _, _⟩) (v := ?_) rfl (by kernel_rfl) (by kernel_rfl) (by kernel_rfl) (fun _ _ _ h => h) (Or.inl ⟨by rfl, ?_⟩) (by assumption) ?_
                rotate_left
                · (intro w hSw; (try dsimp only at hSw); go_simp; try with_reducible rfl)
                try simp only [Act.put, List.setIfInBounds_toArray, List.set_cons_zero, List.set_cons_succ]
                refine wpAnyH_take (i := 17) (oi := ⟨some 44, _, _, _, _, _⟩) (v := ?_) rfl (by kernel_rfl) (by kernel_rfl) (by kernel_rfl) (fun _ _ _ h => h) (Or.inl ⟨by rfl, ?_⟩) (by assumption) ?_
                rotate_left
                · (intro w hSw; (try dsimp only at hSw); go_simp; try with_reducible rfl)
                try simp only [Act.put, List.setIfInBounds_toArray, List.set_cons_zero, List.set_cons_succ]
                refine wpAnyH_take (i := 18) (oi := ⟨some 45, _, _, _, _, _⟩) (v := ?_) rfl (by kernel_rfl) (by kernel_rfl) (by kernel_rfl) (fun _ _ _ h => h) (Or.inl ⟨by rfl, ?_⟩) (by assumption) ?_
                rotate_left
                · (intro w hSw; (try dsimp only at hSw); go_simp; try with_reducible rfl)
                try simp only [Act.put, List.setIfInBounds_toArray, List.set_cons_zero, List.set_cons_succ]
                refine wpAnyH_take (i := 19) (oi := ⟨some 46, _, _, _, _, _⟩) (v := ?_) rfl (by kernel_rfl) (by kernel_rfl) (by kernel_rfl) (fun _ _ _ h => h) (Or.inl ⟨by rfl, ?_⟩) (by assumption) ?_
                rotate_left
                · (intro w hSw; (try dsimp only at hSw); go_simp; try with_reducible rfl)
                try simp only [Act.put, List.setIfInBounds_toArray, List.set_cons_zero, List.set_cons_succ]
                refine wpAnyH_take (i := 20) (oi := ⟨some 47, _, _, _, _, _⟩) (v := ?_) rfl (by kernel_rfl) (by kernel_rfl) (by kernel_rfl) (fun _ _ _ h => h) (Or.inl ⟨by rfl, ?_⟩) (by assumption) ?_
                rotate_left
                · (intro w hSw; (try dsimp only at hSw); go_simp; try with_reducible rfl)
                try simp only [Act.put, List.setIfInBounds_toArray, List.set_cons_zero, List.set_cons_succ]
                refine wpAnyH_ready (rs := [21]) (by kernel_rfl) (by simp) ?_
                refine AllReadyH.cons (o := ⟨some 48, _, _, _, _, _⟩) rfl (fun K hK => ?_) AllReadyH.nil
                go_simp
                refine (HAH.out _).mono ?_
                rintro e w9 ⟨rfl, hB9⟩
                replace hC := below_step hC hB9
                clear hB9
                go_wp2_with fail
                refine hK.out _ _ ?_ (fun hHeldX => ?_)
                · exact SK.out _ hC
                clear hK K hHeld
                rename _ => hHeld
                try simp only [Act.put, List.setIfInBounds_toArray, List.set_cons_zero, List.set_cons_succ]
                refine wpAnyH_take (i := 22) (oi := ⟨some 49, _, _, _, _, _⟩) (v := ?_) rfl (by kernel_rfl) (by kernel_rfl) (by kernel_rfl) (fun _ _ _ h => h) (Or.inl ⟨by rfl, ?_⟩) (by assumption) ?_
                rotate_left
                · (intro w hSw; (try dsimp only at hSw); go_simp; try with_reducible rfl)
                try simp only [Act.put, List.setIfInBounds_toArray, List.set_cons_zero, List.set_cons_succ]
                refine wpAnyH_done (by kernel_rfl) ?_ _
                refine NoPanic.normal ?_
                go_wp2_with fail
                go_cut [77] from 52 to 78 (fun v wx => v = .bool (decide ((yt, yi) = (t, i))) ∧ Hid (Below wo.heap.size wo wx))
                case first =>
                  replace hC := hC.drew
                  by_cases hyt2 : yt = t
                  · have hyb : (yt == t) = true := by simpa using hyt2
                    by_cases hyi : yi = i
                    · have hyc : (yi == i) = true := by simpa using hyi
                      have hdd : decide ((yt, yi) = (t, i)) = true := decide_eq_true (by rw [hyt2, hyi])
                      clear hyt2 hyi
                      refine wp_region_noPanic ?_
                      refine wp_region_held_drew (S := (fun w' => (w'.cell? ⟨g, j, none⟩ = some (.string ⟨yt.toArray⟩) ∧ w'.cell? ⟨g', j, none⟩ = some (.int .i64 yi)) ∧ (w'.cell? ⟨b1, f1 + k, none⟩ = some (.string ⟨t.toArray⟩) ∧ w'.cell? ⟨b2, f2 + k, none⟩ = some (.int .i64 i)))) (by kernel_rfl) ?_ (fun hHeld => ?_)
                      · exact SK.out _ hC
                      refine wpAnyH_take (i := 0) (oi := ⟨some 52, _, _, _, _, _⟩) (v := ?_) rfl (by kernel_rfl) (by kernel_rfl) (by kernel_rfl) (fun _ _ _ h => h) (Or.inl ⟨by rfl, ?_⟩) (by assumption) ?_
                      rotate_left
                      · (intro w hSw; (try dsimp only at hSw); go_simp; try with_reducible rfl)
                      try simp only [Act.put, List.setIfInBounds_toArray, List.set_cons_zero, List.set_cons_succ]
                      refine wpAnyH_take (i := 1) (oi := ⟨some 53, _, _, _, _, _⟩) (v := ?_) rfl (by kernel_rfl) (by kernel_rfl) (by kernel_rfl) (fun _ _ _ h => h) (Or.inl ⟨by rfl, ?_⟩) (by assumption) ?_
                      rotate_left
                      · (intro w hSw; (try dsimp only at hSw); go_simp; try with_reducible rfl)
                      try simp only [Act.put, List.setIfInBounds_toArray, List.set_cons_zero, List.set_cons_succ]
                      refine wpAnyH_take (i := 2) (oi := ⟨some 54, _, _, _, _, _⟩) (v := ?_) rfl (by kernel_rfl) (by kernel_rfl) (by kernel_rfl) (fun _ _ _ h => h) (Or.inl ⟨by rfl, ?_⟩) (by assumption) ?_
                      rotate_left
                      · (intro w hSw; (try dsimp only at hSw); go_simp; try with_reducible rfl)
                      try simp only [Act.put, List.setIfInBounds_toArray, List.set_cons_zero, List.set_cons_succ]
                      refine wpAnyH_take (i := 3) (oi := ⟨some 55, _, _, _, _, _⟩) (v := ?_) rfl (by kernel_rfl) (by kernel_rfl) (by kernel_rfl) (fun _ _ _ h => h) (Or.inl ⟨by rfl, ?_⟩) (by assumption) ?_
                      rotate_left
                      · (intro w hSw; (try dsimp only at hSw); go_simp; try with_reducible rfl)
                      try simp only [Act.put, List.setIfInBounds_toArray, List.set_cons_zero, List.set_cons_succ]
                      refine wpAnyH_take (i := 4) (oi := ⟨some 56, _, _, _, _, _⟩) (v := ?_) rfl (by kernel_rfl) (by kernel_rfl) (by kernel_rfl) (fun _ _ _ h => h) (Or.inl ⟨by rfl, ?_⟩) (by assumption) ?_
                      rotate_left
                      · (intro w hSw; (try dsimp only at hSw); go_simp; try with_reducible rfl)
                      try simp only [Act.put, List.setIfInBounds_toArray, List.set_cons_zero, List.set_cons_succ]
                      refine wpAnyH_take (i := 5) (oi := ⟨some 57, _, _, _, _, _⟩) (v := ?_) rfl (by kernel_rfl) (by kernel_rfl) (by kernel_rfl) (fun _ _ _ h => h) (Or.inl ⟨by rfl, ?_⟩) (by assumption) ?_
                      rotate_left
                      · (intro w hSw; (try dsimp only at hSw); go_simp; try with_reducible rfl)
                      try simp only [Act.put, List.setIfInBounds_toArray, List.set_cons_zero, List.set_cons_succ]
                      refine wpAnyH_take (i := 6) (oi := ⟨some 58, _, _, _, _, _⟩) (v := ?_) rfl (by kernel_rfl) (by kernel_rfl) (by kernel_rfl) (fun _ _ _ h => h) (Or.inl ⟨by rfl, ?_⟩) (by assumption) ?_
                      rotate_left
                      · (intro w hSw; (try dsimp only at hSw); go_simp; try with_reducible rfl)
                      try simp only [Act.put, List.setIfInBounds_toArray, List.set_cons_zero, List.set_cons_succ]
                      refine wpAnyH_take (i := 7) (oi := ⟨some 59, _, _, _, _, _⟩) (v := ?_) rfl (by kernel_rfl) (by kernel_rfl) (by kernel_rfl) (fun _ _ _ h => h) (Or.inl ⟨by rfl, ?_⟩) (by assumption) ?_
                      rotate_left
                      · (intro w hSw; (try dsimp only at hSw); go_simp; try with_reducible rfl)
                      try simp only [Act.put, List.setIfInBounds_toArray, List.set_cons_zero, List.set_cons_succ]
                      refine wpAnyH_take (i := 8) (oi := ⟨some 60, _, _, _, _, _⟩) (v := ?_) rfl (by kernel_rfl) (by kernel_rfl) (by kernel_rfl) (fun _ _ _ h => h) (Or.inl ⟨by rfl, ?_⟩) (by assumption) ?_
                      rotate_left
                      · (intro w hSw; (try dsimp only at hSw); go_simp; try with_reducible rfl)
                      try simp only [Act.put, List.setIfInBounds_toArray, List.set_cons_zero, List.set_cons_succ]
                      refine wpAnyH_take (i := 9) (oi := ⟨some 61, _, _, _, _, _⟩) (v := ?_) rfl (by kernel_rfl) (by kernel_rfl) (by kernel_rfl) (fun _ _ _ h => h) (Or.inl ⟨by rfl, ?_⟩) (by assumption) ?_
                      rotate_left
                      · (intro w hSw; (try dsimp only at hSw); go_simp; try with_reducible rfl)
                      try simp only [Act.put, List.setIfInBounds_toArray, List.set_cons_zero, List.set_cons_succ]
                      refine wpAnyH_take (i := 10) (oi := ⟨some 62, _, _, _, _, _⟩) (v := ?_) rfl (by kernel_rfl) (by kernel_rfl) (by kernel_rfl) (fun _ _ _ h => h) (Or.inl ⟨by rfl, ?_⟩) (by assumption) ?_
                      rotate_left
                      · (intro w hSw; (try dsimp only at hSw); go_simp; try with_reducible rfl)
                      try simp only [Act.put, List.setIfInBounds_toArray, List.set_cons_zero, List.set_cons_succ]
                      refine wpAnyH_take (i := 11) (oi := ⟨some 63, _, _, _, _, _⟩) (v := ?_) rfl (by kernel_rfl) (by kernel_rfl) (by kernel_rfl) (fun _ _ _ h => h) (Or.inl ⟨by rfl, ?_⟩) (by assumption) ?_
                      rotate_left
                      · (intro w hSw; (try dsimp only at hSw); go_simp; try with_reducible rfl)
                      try simp only [Act.put, List.setIfInBounds_toArray, List.set_cons_zero, List.set_cons_succ]
                      refine wpAnyH_take (i := 12) (oi := ⟨some 64, _, _, _, _, _⟩) (v := ?_) rfl (by kernel_rfl) (by kernel_rfl) (by kernel_rfl) (fun _ _ _ h => h) (Or.inl ⟨by rfl, ?_⟩) (by assumption) ?_
                      rotate_left
                      · (intro w hSw; (try dsimp only at hSw); go_simp; try with_reducible rfl)
                      try simp only [Act.put, List.setIfInBounds_toArray, List.set_cons_zero, List.set_cons_succ]
                      refine wpAnyH_take (i := 13) (oi := ⟨some 65, _, _, _, _, _⟩) (v := ?_) rfl (by kernel_rfl) (by kernel_rfl) (by kernel_rfl) (fun _ _ _ h => h) (Or.inl ⟨by rfl, ?_⟩) (by assumption) ?_
                      rotate_left
                      · (intro w hSw; (try dsimp only at hSw); go_simp; try with_reducible rfl)
                      try simp only [Act.put, List.setIfInBounds_toArray, List.set_cons_zero, List.set_cons_succ]
                      refine wpAnyH_take (i := 14) (oi := ⟨some 66, _, _, _, _, _⟩) (v := ?_) rfl (by kernel_rfl) (by kernel_rfl) (by kernel_rfl) (fun _ _ _ h => h) (Or.inl ⟨by rfl, ?_⟩) (by assumption) ?_
                      rotate_left
                      · (intro w hSw; (try dsimp only at hSw); go_simp; try with_reducible rfl)
                      try simp only [Act.put, List.setIfInBounds_toArray, List.set_cons_zero, List.set_cons_succ]
                      refine wpAnyH_take (i := 15) (oi := ⟨some 67, _, _, _, _, _⟩) (v := ?_) rfl (by kernel_rfl) (by kernel_rfl) (by kernel_rfl) (fun _ _ _ h => h) (Or.inl ⟨by rfl, ?_⟩) (by assumption) ?_
                      rotate_left
                      · (intro w hSw; (try dsimp only at hSw); go_simp; try with_reducible rfl)
                      try simp only [Act.put, List.setIfInBounds_toArray, List.set_cons_zero, List.set_cons_succ]
                      refine wpAnyH_take (i := 16) (oi := ⟨some 68, _, _, _, _, _⟩) (v := ?_) rfl (by kernel_rfl) (by kernel_rfl) (by kernel_rfl) (fun _ _ _ h => h) (Or.inl ⟨by rfl, ?_⟩) (by assumption) ?_
                      rotate_left
                      · (intro w hSw; (try dsimp only at hSw); go_simp; try with_reducible rfl)
                      try simp only [Act.put, List.setIfInBounds_toArray, List.set_cons_zero, List.set_cons_succ]
                      refine wpAnyH_take (i := 17) (oi := ⟨some 69, _, _, _, _, _⟩) (v := ?_) rfl (by kernel_rfl) (by kernel_rfl) (by kernel_rfl) (fun _ _ _ h => h) (Or.inl ⟨by rfl, ?_⟩) (by assumption) ?_
                      rotate_left
                      · (intro w hSw; (try dsimp only at hSw); go_simp; try with_reducible rfl)
                      try simp only [Act.put, List.setIfInBounds_toArray, List.set_cons_zero, List.set_cons_succ]
                      refine wpAnyH_take (i := 18) (oi := ⟨some 70, _, _, _, _, _⟩) (v := ?_) rfl (by kernel_rfl) (by kernel_rfl) (by kernel_rfl) (fun _ _ _ h => h) (Or.inl ⟨by rfl, ?_⟩) (by assumption) ?_
                      rotate_left
                      · (intro w hSw; (try dsimp only at hSw); go_simp; try with_reducible rfl)
                      try simp only [Act.put, List.setIfInBounds_toArray, List.set_cons_zero, List.set_cons_succ]
                      refine wpAnyH_take (i := 19) (oi := ⟨some 71, _, _, _, _, _⟩) (v := ?_) rfl (by kernel_rfl) (by kernel_rfl) (by kernel_rfl) (fun _ _ _ h => h) (Or.inl ⟨by rfl, ?_⟩) (by assumption) ?_
                      rotate_left
                      · (intro w hSw; (try dsimp only at hSw); go_simp; try with_reducible rfl)
                      try simp only [Act.put, List.setIfInBounds_toArray, List.set_cons_zero, List.set_cons_succ]
                      refine wpAnyH_take (i := 20) (oi := ⟨some 72, _, _, _, _, _⟩) (v := ?_) rfl (by kernel_rfl) (by kernel_rfl) (by kernel_rfl) (fun _ _ _ h => h) (Or.inl ⟨by rfl, ?_⟩) (by assumption) ?_
                      rotate_left
                      · (intro w hSw; (try dsimp only at hSw); go_simp; try with_reducible rfl)
                      try simp only [Act.put, List.setIfInBounds_toArray, List.set_cons_zero, List.set_cons_succ]
                      refine wpAnyH_take (i := 21) (oi := ⟨some 73, _, _, _, _, _⟩) (v := ?_) rfl (by kernel_rfl) (by kernel_rfl) (by kernel_rfl) (fun _ _ _ h => h) (Or.inl ⟨by rfl, ?_⟩) (by assumption) ?_
                      rotate_left
                      · (intro w hSw; (try dsimp only at hSw); go_simp; try with_reducible rfl)
                      try simp only [Act.put, List.setIfInBounds_toArray, List.set_cons_zero, List.set_cons_succ]
                      refine wpAnyH_take (i := 22) (oi := ⟨some 74, _, _, _, _, _⟩) (v := ?_) rfl (by kernel_rfl) (by kernel_rfl) (by kernel_rfl) (fun _ _ _ h => h) (Or.inl ⟨by rfl, ?_⟩) (by assumption) ?_
                      rotate_left
                      · (intro w hSw; (try dsimp only at hSw); go_simp; try with_reducible rfl)
                      try simp only [Act.put, List.setIfInBounds_toArray, List.set_cons_zero, List.set_cons_succ]
                      refine wpAnyH_take (i := 23) (oi := ⟨some 75, _, _, _, _, _⟩) (v := ?_) rfl (by kernel_rfl) (by kernel_rfl) (by kernel_rfl) (fun _ _ _ h => h) (Or.inl ⟨by rfl, ?_⟩) (by assumption) ?_
                      rotate_left
                      · (intro w hSw; (try dsimp only at hSw); go_simp; try with_reducible rfl)
                      try simp only [Act.put, List.setIfInBounds_toArray, List.set_cons_zero, List.set_cons_succ]
                      refine wpAnyH_take (i := 24) (oi := ⟨some 76, _, _, _, _, _⟩) (v := ?_) rfl (by kernel_rfl) (by kernel_rfl) (by kernel_rfl) (fun _ _ _ h => h) (Or.inl ⟨by rfl, ?_⟩) (by assumption) ?_
                      rotate_left
                      · (intro w hSw; (try dsimp only at hSw); go_simp; try with_reducible rfl)
                      try simp only [Act.put, List.setIfInBounds_toArray, List.set_cons_zero, List.set_cons_succ]
                      refine wpAnyH_take (i := 25) (oi := ⟨some 77, _, _, _, _, _⟩) (v := ?_) rfl (by kernel_rfl) (by kernel_rfl) (by kernel_rfl) (fun _ _ _ h => h) (Or.inl ⟨by rfl, ?_⟩) (by assumption) ?_
                      rotate_left
                      · (intro w hSw; (try dsimp only at hSw); go_simp; try with_reducible rfl)
                      try simp only [Act.put, List.setIfInBounds_toArray, List.set_cons_zero, List.set_cons_succ]
                      refine wpAnyH_done (by kernel_rfl) ?_ _
                      refine NoPanic.normal ?_
                      go_wp2_with fail
                      go_meet
                      case rel => exact ⟨by rw [hdd], Lib.hid hC⟩
                    · have hyc : (yi == i) = false := by simpa using hyi
                      have hdd : decide ((yt, yi) = (t, i)) = false := decide_eq_false fun e => by injection e with _ e; exact hyi e
                      clear hyt2
                      refine wp_region_noPanic ?_
                      refine wp_region_held_drew (S := (fun w' => (w'.cell? ⟨g, j, none⟩ = some (.string ⟨yt.toArray⟩) ∧ w'.cell? ⟨g', j, none⟩ = some (.int .i64 yi)) ∧ (w'.cell? ⟨b1, f1 + k, none⟩ = some (.string ⟨t.toArray⟩) ∧ w'.cell? ⟨b2, f2 + k, none⟩ = some (.int .i64 i)))) (by kernel_rfl) ?_ (fun hHeld => ?_)
                      · exact SK.out _ hC
                      refine wpAnyH_take (i := 0) (oi := ⟨some 52, _, _, _, _, _⟩) (v := ?_) rfl (by kernel_rfl) (by kernel_rfl) (by kernel_rfl) (fun _ _ _ h => h) (Or.inl ⟨by rfl, ?_⟩) (by assumption) ?_
                      rotate_left
                      · (intro w hSw; (try dsimp only at hSw); go_simp; try with_reducible rfl)
                      try simp only [Act.put, List.setIfInBounds_toArray, List.set_cons_zero, List.set_cons_succ]
                      refine wpAnyH_take (i := 1) (oi := ⟨some 53, _, _, _, _, _⟩) (v := ?_) rfl (by kernel_rfl) (by kernel_rfl) (by kernel_rfl) (fun _ _ _ h => h) (Or.inl ⟨by rfl, ?_⟩) (by assumption) ?_
                      rotate_left
                      · (intro w hSw; (try dsimp only at hSw); go_simp; try with_reducible rfl)
                      try simp only [Act.put, List.setIfInBounds_toArray, List.set_cons_zero, List.set_cons_succ]
                      refine wpAnyH_take (i := 2) (oi := ⟨some 54, _, _, _, _, _⟩) (v := ?_) rfl (by kernel_rfl) (by kernel_rfl) (by kernel_rfl) (fun _ _ _ h => h) (Or.inl ⟨by rfl, ?_⟩) (by assumption) ?_
                      rotate_left
                      · (intro w hSw; (try dsimp only at hSw); go_simp; try with_reducible rfl)
                      try simp only [Act.put, List.setIfInBounds_toArray, List.set_cons_zero, List.set_cons_succ]
                      refine wpAnyH_take (i := 3) (oi := ⟨some 55, _, _, _, _, _⟩) (v := ?_) rfl (by kernel_rfl) (by kernel_rfl) (by kernel_rfl) (fun _ _ _ h => h) (Or.inl ⟨by rfl, ?_⟩) (by assumption) ?_
                      rotate_left
                      · (intro w hSw; (try dsimp only at hSw); go_simp; try with_reducible rfl)
                      try simp only [Act.put, List.setIfInBounds_toArray, List.set_cons_zero, List.set_cons_succ]
                      refine wpAnyH_take (i := 4) (oi := ⟨some 56, _, _, _, _, _⟩) (v := ?_) rfl (by kernel_rfl) (by kernel_rfl) (by kernel_rfl) (fun _ _ _ h => h) (Or.inl ⟨by rfl, ?_⟩) (by assumption) ?_
                      rotate_left
                      · (intro w hSw; (try dsimp only at hSw); go_simp; try with_reducible rfl)
                      try simp only [Act.put, List.setIfInBounds_toArray, List.set_cons_zero, List.set_cons_succ]
                      refine wpAnyH_take (i := 5) (oi := ⟨some 57, _, _, _, _, _⟩) (v := ?_) rfl (by kernel_rfl) (by kernel_rfl) (by kernel_rfl) (fun _ _ _ h => h) (Or.inl ⟨by rfl, ?_⟩) (by assumption) ?_
                      rotate_left
                      · (intro w hSw; (try dsimp only at hSw); go_simp; try with_reducible rfl)
                      try simp only [Act.put, List.setIfInBounds_toArray, List.set_cons_zero, List.set_cons_succ]
                      refine wpAnyH_take (i := 6) (oi := ⟨some 58, _, _, _, _, _⟩) (v := ?_) rfl (by kernel_rfl) (by kernel_rfl) (by kernel_rfl) (fun _ _ _ h => h) (Or.inl ⟨by rfl, ?_⟩) (by assumption) ?_
                      rotate_left
                      · (intro w hSw; (try dsimp only at hSw); go_simp; try with_reducible rfl)
                      try simp only [Act.put, List.setIfInBounds_toArray, List.set_cons_zero, List.set_cons_succ]
                      refine wpAnyH_take (i := 7) (oi := ⟨some 59, _, _, _, _, _⟩) (v := ?_) rfl (by kernel_rfl) (by kernel_rfl) (by kernel_rfl) (fun _ _ _ h => h) (Or.inl ⟨by rfl, ?_⟩) (by assumption) ?_
                      rotate_left
                      · (intro w hSw; (try dsimp only at hSw); go_simp; try with_reducible rfl)
                      try simp only [Act.put, List.setIfInBounds_toArray, List.set_cons_zero, List.set_cons_succ]
                      refine wpAnyH_take (i := 8) (oi := ⟨some 60, _, _, _, _, _⟩) (v := ?_) rfl (by kernel_rfl) (by kernel_rfl) (by kernel_rfl) (fun _ _ _ h => h) (Or.inl ⟨by rfl, ?_⟩) (by assumption) ?_
                      rotate_left
                      · (intro w hSw; (try dsimp only at hSw); go_simp; try with_reducible rfl)
                      try simp only [Act.put, List.setIfInBounds_toArray, List.set_cons_zero, List.set_cons_succ]
                      refine wpAnyH_take (i := 9) (oi := ⟨some 61, _, _, _, _, _⟩) (v := ?_) rfl (by kernel_rfl) (by kernel_rfl) (by kernel_rfl) (fun _ _ _ h => h) (Or.inl ⟨by rfl, ?_⟩) (by assumption) ?_
                      rotate_left
                      · (intro w hSw; (try dsimp only at hSw); go_simp; try with_reducible rfl)
                      try simp only [Act.put, List.setIfInBounds_toArray, List.set_cons_zero, List.set_cons_succ]
                      refine wpAnyH_take (i := 10) (oi := ⟨some 62, _, _, _, _, _⟩) (v := ?_) rfl (by kernel_rfl) (by kernel_rfl) (by kernel_rfl) (fun _ _ _ h => h) (Or.inl ⟨by rfl, ?_⟩) (by assumption) ?_
                      rotate_left
                      · (intro w hSw; (try dsimp only at hSw); go_simp; try with_reducible rfl)
                      try simp only [Act.put, List.setIfInBounds_toArray, List.set_cons_zero, List.set_cons_succ]
                      refine wpAnyH_take (i := 11) (oi := ⟨some 63, _, _, _, _, _⟩) (v := ?_) rfl (by kernel_rfl) (by kernel_rfl) (by kernel_rfl) (fun _ _ _ h => h) (Or.inl ⟨by rfl, ?_⟩) (by assumption) ?_
                      rotate_left
                      · (intro w hSw; (try dsimp only at hSw); go_simp; try with_reducible rfl)
                      try simp only [Act.put, List.setIfInBounds_toArray, List.set_cons_zero, List.set_cons_succ]
                      refine wpAnyH_take (i := 12) (oi := ⟨some 64, _, _, _, _, _⟩) (v := ?_) rfl (by kernel_rfl) (by kernel_rfl) (by kernel_rfl) (fun _ _ _ h => h) (Or.inl ⟨by rfl, ?_⟩) (by assumption) ?_
                      rotate_left
                      · (intro w hSw; (try dsimp only at hSw); go_simp; try with_reducible rfl)
                      try simp only [Act.put, List.setIfInBounds_toArray, List.set_cons_zero, List.set_cons_succ]
                      refine wpAnyH_take (i := 13) (oi := ⟨some 65, _, _, _, _, _⟩) (v := ?_) rfl (by kernel_rfl) (by kernel_rfl) (by kernel_rfl) (fun _ _ _ h => h) (Or.inl ⟨by rfl, ?_⟩) (by assumption) ?_
                      rotate_left
                      · (intro w hSw; (try dsimp only at hSw); go_simp; try with_reducible rfl)
                      try simp only [Act.put, List.setIfInBounds_toArray, List.set_cons_zero, List.set_cons_succ]
                      refine wpAnyH_take (i := 14) (oi := ⟨some 66, _, _, _, _, _⟩) (v := ?_) rfl (by kernel_rfl) (by kernel_rfl) (by kernel_rfl) (fun _ _ _ h => h) (Or.inl ⟨by rfl, ?_⟩) (by assumption) ?_
                      rotate_left
                      · (intro w hSw; (try dsimp only at hSw); go_simp; try with_reducible rfl)
                      try simp only [Act.put, List.setIfInBounds_toArray, List.set_cons_zero, List.set_cons_succ]
                      refine wpAnyH_take (i := 15) (oi := ⟨some 67, _, _, _, _, _⟩) (v := ?_) rfl (by kernel_rfl) (by kernel_rfl) (by kernel_rfl) (fun _ _ _ h => h) (Or.inl ⟨by rfl, ?_⟩) (by assumption) ?_
                      rotate_left
                      · (intro w hSw; (try dsimp only at hSw); go_simp; try with_reducible rfl)
                      try simp only [Act.put, List.setIfInBounds_toArray, List.set_cons_zero, List.set_cons_succ]
                      refine wpAnyH_take (i := 16) (oi := ⟨some 68, _, _, _, _, _⟩) (v := ?_) rfl (by kernel_rfl) (by kernel_rfl) (by kernel_rfl) (fun _ _ _ h => h) (Or.inl ⟨by rfl, ?_⟩) (by assumption) ?_
                      rotate_left
                      · (intro w hSw; (try dsimp only at hSw); go_simp; try with_reducible rfl)
                      try simp only [Act.put, List.setIfInBounds_toArray, List.set_cons_zero, List.set_cons_succ]
                      refine wpAnyH_take (i := 17) (oi := ⟨some 69, _, _, _, _, _⟩) (v := ?_) rfl (by kernel_rfl) (by kernel_rfl) (by kernel_rfl) (fun _ _ _ h => h) (Or.inl ⟨by rfl, ?_⟩) (by assumption) ?_
                      rotate_left
                      · (intro w hSw; (try dsimp only at hSw); go_simp; try with_reducible rfl)
                      try simp only [Act.put, List.setIfInBounds_toArray, List.set_cons_zero, List.set_cons_succ]
                      refine wpAnyH_take (i := 18) (oi := ⟨some 70, _, _, _, _, _⟩) (v := ?_) rfl (by kernel_rfl) (by kernel_rfl) (by kernel_rfl) (fun _ _ _ h => h) (Or.inl ⟨by rfl, ?_⟩) (by assumption) ?_
                      rotate_left
                      · (intro w hSw; (try dsimp only at hSw); go_simp; try with_reducible rfl)
                      try simp only [Act.put, List.setIfInBounds_toArray, List.set_cons_zero, List.set_cons_succ]
                      refine wpAnyH_take (i := 19) (oi := ⟨some 71, _, _, _, _, _⟩) (v := ?_) rfl (by kernel_rfl) (by kernel_rfl) (by kernel_rfl) (fun _ _ _ h => h) (Or.inl ⟨by rfl, ?_⟩) (by assumption) ?_
                      rotate_left
                      · (intro w hSw; (try dsimp only at hSw); go_simp; try with_reducible rfl)
                      try simp only [Act.put, List.setIfInBounds_toArray, List.set_cons_zero, List.set_cons_succ]
                      refine wpAnyH_take (i := 20) (oi := ⟨some 72, _, _, _, _, _⟩) (v := ?_) rfl (by kernel_rfl) (by kernel_rfl) (by kernel_rfl) (fun _ _ _ h => h) (Or.inl ⟨by rfl, ?_⟩) (by assumption) ?_
                      rotate_left
                      · (intro w hSw; (try dsimp only at hSw); go_simp; try with_reducible rfl)
                      try simp only [Act.put, List.setIfInBounds_toArray, List.set_cons_zero, List.set_cons_succ]
                      refine wpAnyH_take (i := 21) (oi := ⟨some 73, _, _, _, _, _⟩) (v := ?_) rfl (by kernel_rfl) (by kernel_rfl) (by kernel_rfl) (fun _ _ _ h => h) (Or.inl ⟨by rfl, ?_⟩) (by assumption) ?_
                      rotate_left
                      · (intro w hSw; (try dsimp only at hSw); go_simp; try with_reducible rfl)
                      try simp only [Act.put, List.setIfInBounds_toArray, List.set_cons_zero, List.set_cons_succ]
                      refine wpAnyH_take (i := 22) (oi := ⟨some 74, _, _, _, _, _⟩) (v := ?_) rfl (by kernel_rfl) (by kernel_rfl) (by kernel_rfl) (fun _ _ _ h => h) (Or.inl ⟨by rfl, ?_⟩) (by assumption) ?_
                      rotate_left
                      · (intro w hSw; (try dsimp only at hSw); go_simp; try with_reducible rfl)
                      try simp only [Act.put, List.setIfInBounds_toArray, List.set_cons_zero, List.set_cons_succ]
                      refine wpAnyH_take (i := 23) (oi := ⟨some 75, _, _, _, _, _⟩) (v := ?_) rfl (by kernel_rfl) (by kernel_rfl) (by kernel_rfl) (fun _ _ _ h => h) (Or.inl ⟨by rfl, ?_⟩) (by assumption) ?_
                      rotate_left
                      · (intro w hSw; (try dsimp only at hSw); go_simp; try with_reducible rfl)
                      try simp only [Act.put, List.setIfInBounds_toArray, List.set_cons_zero, List.set_cons_succ]
                      refine wpAnyH_take (i := 24) (oi := ⟨some 76, _, _, _, _, _⟩) (v := ?_) rfl (by kernel_rfl) (by kernel_rfl) (by kernel_rfl) (fun _ _ _ h => h) (Or.inl ⟨by rfl, ?_⟩) (by assumption) ?_
                      rotate_left
                      · (intro w hSw; (try dsimp only at hSw); go_simp; try with_reducible rfl)
                      try simp only [Act.put, List.setIfInBounds_toArray, List.set_cons_zero, List.set_cons_succ]
                      refine wpAnyH_take (i := 25) (oi := ⟨some 77, _, _, _, _, _⟩) (v := ?_) rfl (by kernel_rfl) (by kernel_rfl) (by kernel_rfl) (fun _ _ _ h => h) (Or.inl ⟨by rfl, ?_⟩) (by assumption) ?_
                      rotate_left
                      · (intro w hSw; (try dsimp only at hSw); go_simp; try with_reducible rfl)
                      try simp only [Act.put, List.setIfInBounds_toArray, List.set_cons_zero, List.set_cons_succ]
                      refine wpAnyH_done (by kernel_rfl) ?_ _
                      refine NoPanic.normal ?_
                      go_wp2_with fail
                      go_meet
                      case rel => exact ⟨by rw [hdd], Lib.hid hC⟩
                  · have hyb : (yt == t) = false := by simpa using hyt2
                    have hdd : decide ((yt, yi) = (t, i)) = false := decide_eq_false fun e => by injection e with e _; exact hyt2 e
                    refine wp_region_noPanic ?_
                    refine wp_region_held_drew (S := (fun w' => (w'.cell? ⟨g, j, none⟩ = some (.string ⟨yt.toArray⟩) ∧ w'.cell? ⟨g', j, none⟩ = some (.int .i64 yi)) ∧ (w'.cell? ⟨b1, f1 + k, none⟩ = some (.string ⟨t.toArray⟩) ∧ w'.cell? ⟨b2, f2 + k, none⟩ = some (.int .i64 i)))) (by kernel_rfl) ?_ (fun hHeld => ?_)
                    · exact SK.out _ hC
                    refine wpAnyH_take (i := 0) (oi := ⟨some 52, _, _, _, _, _⟩) (v := ?_) rfl (by kernel_rfl) (by kernel_rfl) (by kernel_rfl) (fun _ _ _ h => h) (Or.inl ⟨by rfl, ?_⟩) (by assumption) ?_
                    rotate_left
                    · (intro w hSw; (try dsimp only at hSw); go_simp; try with_reducible rfl)
                    try simp only [Act.put, List.setIfInBounds_toArray, List.set_cons_zero, List.set_cons_succ]
                    refine wpAnyH_take (i := 1) (oi := ⟨some 53, _, _, _, _, _⟩) (v := ?_) rfl (by kernel_rfl) (by kernel_rfl) (by kernel_rfl) (fun _ _ _ h => h) (Or.inl ⟨by rfl, ?_⟩) (by assumption) ?_
                    rotate_left
                    · (intro w hSw; (try dsimp only at hSw); go_simp; try with_reducible rfl)
                    try simp only [Act.put, List.setIfInBounds_toArray, List.set_cons_zero, List.set_cons_succ]
                    refine wpAnyH_take (i := 2) (oi := ⟨some 54, _, _, _, _, _⟩) (v := ?_) rfl (by kernel_rfl) (by kernel_rfl) (by kernel_rfl) (fun _ _ _ h => h) (Or.inl ⟨by rfl, ?_⟩) (by assumption) ?_
                    rotate_left
                    · (intro w hSw; (try dsimp only at hSw); go_simp; try with_reducible rfl)
                    try simp only [Act.put, List.setIfInBounds_toArray, List.set_cons_zero, List.set_cons_succ]
                    refine wpAnyH_take (i := 3) (oi := ⟨some 55, _, _, _, _, _⟩) (v := ?_) rfl (by kernel_rfl) (by kernel_rfl) (by kernel_rfl) (fun _ _ _ h => h) (Or.inl ⟨by rfl, ?_⟩) (by assumption) ?_
                    rotate_left
                    · (intro w hSw; (try dsimp only at hSw); go_simp; try with_reducible rfl)
                    try simp only [Act.put, List.setIfInBounds_toArray, List.set_cons_zero, List.set_cons_succ]
                    refine wpAnyH_take (i := 4) (oi := ⟨some 56, _, _, _, _, _⟩) (v := ?_) rfl (by kernel_rfl) (by kernel_rfl) (by kernel_rfl) (fun _ _ _ h => h) (Or.inl ⟨by rfl, ?_⟩) (by assumption) ?_
                    rotate_left
                    · (intro w hSw; (try dsimp only at hSw); go_simp; try with_reducible rfl)
                    try simp only [Act.put, List.setIfInBounds_toArray, List.set_cons_zero, List.set_cons_succ]
                    refine wpAnyH_take (i := 5) (oi := ⟨some 57, _, _, _, _, _⟩) (v := ?_) rfl (by kernel_rfl) (by kernel_rfl) (by kernel_rfl) (fun _ _ _ h => h) (Or.inl ⟨by rfl, ?_⟩) (by assumption) ?_
                    rotate_left
                    · (intro w hSw; (try dsimp only at hSw); go_simp; try with_reducible rfl)
                    try simp only [Act.put, List.setIfInBounds_toArray, List.set_cons_zero, List.set_cons_succ]
                    refine wpAnyH_take (i := 6) (oi := ⟨some 58, _, _, _, _, _⟩) (v := ?_) rfl (by kernel_rfl) (by kernel_rfl) (by kernel_rfl) (fun _ _ _ h => h) (Or.inl ⟨by rfl, ?_⟩) (by assumption) ?_
                    rotate_left
                    · (intro w hSw; (try dsimp only at hSw); go_simp; try with_reducible rfl)
                    try simp only [Act.put, List.setIfInBounds_toArray, List.set_cons_zero, List.set_cons_succ]
                    refine wpAnyH_take (i := 7) (oi := ⟨some 59, _, _, _, _, _⟩) (v := ?_) rfl (by kernel_rfl) (by kernel_rfl) (by kernel_rfl) (fun _ _ _ h => h) (Or.inl ⟨by rfl, ?_⟩) (by assumption) ?_
                    rotate_left
                    · (intro w hSw; (try dsimp only at hSw); go_simp; try with_reducible rfl)
                    try simp only [Act.put, List.setIfInBounds_toArray, List.set_cons_zero, List.set_cons_succ]
                    refine wpAnyH_take (i := 8) (oi := ⟨some 60, _, _, _, _, _⟩) (v := ?_) rfl (by kernel_rfl) (by kernel_rfl) (by kernel_rfl) (fun _ _ _ h => h) (Or.inl ⟨by rfl, ?_⟩) (by assumption) ?_
                    rotate_left
                    · (intro w hSw; (try dsimp only at hSw); go_simp; try with_reducible rfl)
                    try simp only [Act.put, List.setIfInBounds_toArray, List.set_cons_zero, List.set_cons_succ]
                    refine wpAnyH_take (i := 9) (oi := ⟨some 61, _, _, _, _, _⟩) (v := ?_) rfl (by kernel_rfl) (by kernel_rfl) (by kernel_rfl) (fun _ _ _ h => h) (Or.inl ⟨by rfl, ?_⟩) (by assumption) ?_
                    rotate_left
                    · (intro w hSw; (try dsimp only at hSw); go_simp; try with_reducible rfl)
                    try simp only [Act.put, List.setIfInBounds_toArray, List.set_cons_zero, List.set_cons_succ]
                    refine wpAnyH_take (i := 10) (oi := ⟨some 62, _, _, _, _, _⟩) (v := ?_) rfl (by kernel_rfl) (by kernel_rfl) (by kernel_rfl) (fun _ _ _ h => h) (Or.inl ⟨by rfl, ?_⟩) (by assumption) ?_
                    rotate_left
                    · (intro w hSw; (try dsimp only at hSw); go_simp; try with_reducible rfl)
                    try simp only [Act.put, List.setIfInBounds_toArray, List.set_cons_zero, List.set_cons_succ]
                    refine wpAnyH_take (i := 11) (oi := ⟨some 63, _, _, _, _, _⟩) (v := ?_) rfl (by kernel_rfl) (by kernel_rfl) (by kernel_rfl) (fun _ _ _ h => h) (Or.inl ⟨by rfl, ?_⟩) (by assumption) ?_
                    rotate_left
                    · (intro w hSw; (try dsimp only at hSw); go_simp; try with_reducible rfl)
                    try simp only [Act.put, List.setIfInBounds_toArray, List.set_cons_zero, List.set_cons_succ]
                    refine wpAnyH_take (i := 12) (oi := ⟨some 64, _, _, _, _, _⟩) (v := ?_) rfl (by kernel_rfl) (by kernel_rfl) (by kernel_rfl) (fun _ _ _ h => h) (Or.inl ⟨by rfl, ?_⟩) (by assumption) ?_
                    rotate_left
                    · (intro w hSw; (try dsimp only at hSw); go_simp; try with_reducible rfl)
                    try simp only [Act.put, List.setIfInBounds_toArray, List.set_cons_zero, List.set_cons_succ]
                    refine wpAnyH_take (i := 13) (oi := ⟨some 65, _, _, _, _, _⟩) (v := ?_) rfl (by kernel_rfl) (by kernel_rfl) (by kernel_rfl) (fun _ _ _ h => h) (Or.inl ⟨by rfl, ?_⟩) (by assumption) ?_
                    rotate_left
                    · (intro w hSw; (try dsimp only at hSw); go_simp; try with_reducible rfl)
                    try simp only [Act.put, List.setIfInBounds_toArray, List.set_cons_zero, List.set_cons_succ]
                    refine wpAnyH_take (i := 14) (oi := ⟨some 66, _, _, _, _, _⟩) (v := ?_) rfl (by kernel_rfl) (by kernel_rfl) (by kernel_rfl) (fun _ _ _ h => h) (Or.inl ⟨by rfl, ?_⟩) (by assumption) ?_
                    rotate_left
                    · (intro w hSw; (try dsimp only at hSw); go_simp; try with_reducible rfl)
                    try simp only [Act.put, List.setIfInBounds_toArray, List.set_cons_zero, List.set_cons_succ]
                    refine wpAnyH_take (i := 15) (oi := ⟨some 67, _, _, _, _, _⟩) (v := ?_) rfl (by kernel_rfl) (by kernel_rfl) (by kernel_rfl) (fun _ _ _ h => h) (Or.inl ⟨by rfl, ?_⟩) (by assumption) ?_
                    rotate_left
                    · (intro w hSw; (try dsimp only at hSw); go_simp; try with_reducible rfl)
                    try simp only [Act.put, List.setIfInBounds_toArray, List.set_cons_zero, List.set_cons_succ]
                    refine wpAnyH_take (i := 16) (oi := ⟨some 68, _, _, _, _, _⟩) (v := undef) rfl (by kernel_rfl) (by kernel_rfl) (by kernel_rfl) (fun _ _ _ h => h) (Or.inr ⟨by rfl, rfl⟩) (by assumption) ?_
                    try simp only [Act.put, List.setIfInBounds_toArray, List.set_cons_zero, List.set_cons_succ]
                    refine wpAnyH_take (i := 17) (oi := ⟨some 69, _, _, _, _, _⟩) (v := undef) rfl (by kernel_rfl) (by kernel_rfl) (by kernel_rfl) (fun _ _ _ h => h) (Or.inr ⟨by rfl, rfl⟩) (by assumption) ?_
                    try simp only [Act.put, List.setIfInBounds_toArray, List.set_cons_zero, List.set_cons_succ]
                    refine wpAnyH_take (i := 18) (oi := ⟨some 70, _, _, _, _, _⟩) (v := undef) rfl (by kernel_rfl) (by kernel_rfl) (by kernel_rfl) (fun _ _ _ h => h) (Or.inr ⟨by rfl, rfl⟩) (by assumption) ?_
                    try simp only [Act.put, List.setIfInBounds_toArray, List.set_cons_zero, List.set_cons_succ]
                    refine wpAnyH_take (i := 19) (oi := ⟨some 71, _, _, _, _, _⟩) (v := undef) rfl (by kernel_rfl) (by kernel_rfl) (by kernel_rfl) (fun _ _ _ h => h) (Or.inr ⟨by rfl, rfl⟩) (by assumption) ?_
                    try simp only [Act.put, List.setIfInBounds_toArray, List.set_cons_zero, List.set_cons_succ]
                    refine wpAnyH_take (i := 20) (oi := ⟨some 72, _, _, _, _, _⟩) (v := undef) rfl (by kernel_rfl) (by kernel_rfl) (by kernel_rfl) (fun _ _ _ h => h) (Or.inr ⟨by rfl, rfl⟩) (by assumption) ?_
                    try simp only [Act.put, List.setIfInBounds_toArray, List.set_cons_zero, List.set_cons_succ]
                    refine wpAnyH_take (i := 21) (oi := ⟨some 73, _, _, _, _, _⟩) (v := undef) rfl (by kernel_rfl) (by kernel_rfl) (by kernel_rfl) (fun _ _ _ h => h) (Or.inr ⟨by rfl, rfl⟩) (by assumption) ?_
                    try simp only [Act.put, List.setIfInBounds_toArray, List.set_cons_zero, List.set_cons_succ]
                    refine wpAnyH_take (i := 22) (oi := ⟨some 74, _, _, _, _, _⟩) (v := undef) rfl (by kernel_rfl) (by kernel_rfl) (by kernel_rfl) (fun _ _ _ h => h) (Or.inr ⟨by rfl, rfl⟩) (by assumption) ?_
                    try simp only [Act.put, List.setIfInBounds_toArray, List.set_cons_zero, List.set_cons_succ]
                    refine wpAnyH_take (i := 23) (oi := ⟨some 75, _, _, _, _, _⟩) (v := undef) rfl (by kernel_rfl) (by kernel_rfl) (by kernel_rfl) (fun _ _ _ h => h) (Or.inr ⟨by rfl, rfl⟩) (by assumption) ?_
                    try simp only [Act.put, List.setIfInBounds_toArray, List.set_cons_zero, List.set_cons_succ]
                    refine wpAnyH_take (i := 24) (oi := ⟨some 76, _, _, _, _, _⟩) (v := undef) rfl (by kernel_rfl) (by kernel_rfl) (by kernel_rfl) (fun _ _ _ h => h) (Or.inr ⟨by rfl, rfl⟩) (by assumption) ?_
                    try simp only [Act.put, List.setIfInBounds_toArray, List.set_cons_zero, List.set_cons_succ]
                    refine wpAnyH_take (i := 25) (oi := ⟨some 77, _, _, _, _, _⟩) (v := ?_) rfl (by kernel_rfl) (by kernel_rfl) (by kernel_rfl) (fun _ _ _ h => h) (Or.inl ⟨by rfl, ?_⟩) (by assumption) ?_
                    rotate_left
                    · (intro w hSw; (try dsimp only at hSw); go_simp; try with_reducible rfl)
                    try simp only [Act.put, List.setIfInBounds_toArray, List.set_cons_zero, List.set_cons_succ]
                    refine wpAnyH_done (by kernel_rfl) ?_ _
                    refine NoPanic.normal ?_
                    go_wp2_with fail
                    go_meet
                    case rel => exact ⟨by rw [hdd], Lib.hid hC⟩
                case rest =>
                  obtain ⟨rfl, HCC⟩ := hcut
                  cases hdd : decide ((yt, yi) = (t, i))
                  · have HIZ : Hid (insZ (t, i) L = L.take j ++ (t, i) :: L.drop j) := Lib.hid (by rw [HIZ0.out, if_neg]; intro e; injection e with e; exact of_decide_eq_false hdd e)
                    have hWB := HCC.out
                    generalize wc = wi at *
                    clear hC
                    go_wp2_with fail
                    have HWI : Hid (Below W.heap.size W wi) := Lib.hid (below_step ST.out.bl hWB)
                    go_cut [6] from 78 to 93 (fun v wx => ∃ a3 q3, v = .slice a3 (L.length + 1) q3 ∧ Hid (wx.ownsRow wi.heap.size 9 1 (.slice a3 (L.length + 1) q3) (L.length + 1) (([] ++ ((L.map Prod.fst).map keyV).take j ++ [Value.string ⟨t.toArray⟩]) ++ ((L.map Prod.fst).map keyV).drop j)) ∧ Hid (Below wi.heap.size wi wx))
                    case first =>
                      have hC : Below wi.heap.size wi wi.drew := (Below.refl _ _).drew
                      refine wp_region_noPanic ?_
                      refine wp_region_held_drew (S := (fun w' => w'.cell? ⟨b1, f1 + k, none⟩ = some (.string ⟨t.toArray⟩) ∧ w'.cell? ⟨b2, f2 + k, none⟩ = some (.int .i64 i))) (by kernel_rfl) ?_ (fun hHeld => ?_)
                      · exact HTE.out _ (hWB.trans (hC.mono hWB.size))
                      generalize wi.drew = Wn at hC hHeld ⊢
                      refine wpAnyH_take (i := 1) (oi := ⟨some 79, _, _, _, _, _⟩) (v := ?_) rfl (by kernel_rfl) (by kernel_rfl) (by kernel_rfl) (fun _ _ _ h => h) (Or.inl ⟨by rfl, ?_⟩) (by assumption) ?_
                      rotate_left
                      · (intro w hSw; (try dsimp only at hSw); go_simp; try with_reducible rfl)
                      try simp only [Act.put, List.setIfInBounds_toArray, List.set_cons_zero, List.set_cons_succ]
                      refine wpAnyH_take (i := 2) (oi := ⟨some 80, _, _, _, _, _⟩) (v := ?_) rfl (by kernel_rfl) (by kernel_rfl) (by kernel_rfl) (fun _ _ _ h => h) (Or.inl ⟨by rfl, ?_⟩) (by assumption) ?_
                      rotate_left
                      · (intro w hSw; (try dsimp only at hSw); go_simp; try with_reducible rfl)
                      try simp only [Act.put, List.setIfInBounds_toArray, List.set_cons_zero, List.set_cons_succ]
                      refine wpAnyH_take (i := 3) (oi := ⟨some 81, _, _, _, _, _⟩) (v := ?_) rfl (by kernel_rfl) (by kernel_rfl) (by kernel_rfl) (fun _ _ _ h => h) (Or.inl ⟨by rfl, ?_⟩) (by assumption) ?_
                      rotate_left
                      · (intro w hSw; (try dsimp only at hSw); go_simp; try with_reducible rfl)
                      try simp only [Act.put, List.setIfInBounds_toArray, List.set_cons_zero, List.set_cons_succ]
                      refine wpAnyH_take (i := 5) (oi := ⟨some 83, _, _, _, _, _⟩) (v := ?_) rfl (by kernel_rfl) (by kernel_rfl) (by kernel_rfl) (fun _ _ _ h => h) (Or.inl ⟨by rfl, ?_⟩) (by assumption) ?_
                      rotate_left
                      · (intro w hSw; (try dsimp only at hSw); go_simp; try with_reducible rfl)
                      try simp only [Act.put, List.setIfInBounds_toArray, List.set_cons_zero, List.set_cons_succ]
                      refine wpAnyH_take (i := 6) (oi := ⟨some 84, _, _, _, _, _⟩) (v := ?_) rfl (by kernel_rfl) (by kernel_rfl) (by kernel_rfl) (fun _ _ _ h => h) (Or.inl ⟨by rfl, ?_⟩) (by assumption) ?_
                      rotate_left
                      · (intro w hSw; (try dsimp only at hSw); go_simp; try with_reducible rfl)
                      try simp only [Act.put, List.setIfInBounds_toArray, List.set_cons_zero, List.set_cons_succ]
                      refine wpAnyH_take (i := 7) (oi := ⟨some 85, _, _, _, _, _⟩) (v := ?_) rfl (by kernel_rfl) (by kernel_rfl) (by kernel_rfl) (fun _ _ _ h => h) (Or.inl ⟨by rfl, ?_⟩) (by assumption) ?_
                      rotate_left
                      · (intro w hSw; (try dsimp only at hSw); go_simp; try with_reducible rfl)
                      try simp only [Act.put, List.setIfInBounds_toArray, List.set_cons_zero, List.set_cons_succ]
                      refine wpAnyH_take (i := 8) (oi := ⟨some 86, _, _, _, _, _⟩) (v := ?_) rfl (by kernel_rfl) (by kernel_rfl) (by kernel_rfl) (fun _ _ _ h => h) (Or.inl ⟨by rfl, ?_⟩) (by assumption) ?_
                      rotate_left
                      · (intro w hSw; (try dsimp only at hSw); go_simp; try with_reducible rfl)
                      try simp only [Act.put, List.setIfInBounds_toArray, List.set_cons_zero, List.set_cons_succ]
                      refine wpAnyH_take (i := 11) (oi := ⟨some 89, _, _, _, _, _⟩) (v := ?_) rfl (by kernel_rfl) (by kernel_rfl) (by kernel_rfl) (fun _ _ _ h => h) (Or.inl ⟨by rfl, ?_⟩) (by assumption) ?_
                      rotate_left
                      · (intro w hSw; (try dsimp only at hSw); go_simp; try with_reducible rfl)
                      try simp only [Act.put, List.setIfInBounds_toArray, List.set_cons_zero, List.set_cons_succ]
                      refine wpAnyH_take (i := 12) (oi := ⟨some 90, _, _, _, _, _⟩) (v := ?_) rfl (by kernel_rfl) (by kernel_rfl) (by kernel_rfl) (fun _ _ _ h => h) (Or.inl ⟨by rfl, ?_⟩) (by assumption) ?_
                      rotate_left
                      · (intro w hSw; (try dsimp only at hSw); go_simp; try with_reducible rfl)
                      try simp only [Act.put, List.setIfInBounds_toArray, List.set_cons_zero, List.set_cons_succ]
                      refine wpAnyH_take (i := 13) (oi := ⟨some 91, _, _, _, _, _⟩) (v := ?_) rfl (by kernel_rfl) (by kernel_rfl) (by kernel_rfl) (fun _ _ _ h => h) (Or.inl ⟨by rfl, ?_⟩) (by assumption) ?_
                      rotate_left
                      · (intro w hSw; (try dsimp only at hSw); go_simp; try with_reducible rfl)
                      try simp only [Act.put, List.setIfInBounds_toArray, List.set_cons_zero, List.set_cons_succ]
                      refine wpAnyH_ready (rs := [0, 9]) (by kernel_rfl) (by simp) ?_
                      refine AllReadyH.cons (o := ⟨some 78, _, _, _, _, _⟩) rfl (fun K hK => ?_) (AllReadyH.cons (o := ⟨some 87, _, _, _, _, _⟩) rfl (fun K hK => ?_) AllReadyH.nil)
                      · go_simp
                        first | (have hri := ri_row ha hC.size; clear ha) | have h0 := own_start Wn wi.heap.size 9 hC.size
                        replace hC := below_step hC (new_below Wn (.cells #[] 9))
                        generalize World.alloc _ _ = Wn at *
                        refine hK.out _ _ ?_ (fun hHeldX => ?_)
                        · exact HTE.out _ (hWB.trans (hC.mono hWB.size))
                        clear hK K hHeld
                        rename _ => hHeld
                        try simp only [Act.put, List.setIfInBounds_toArray, List.set_cons_zero, List.set_cons_succ]
                        refine wpAnyH_ready (rs := [4, 9]) (by kernel_rfl) (by simp) ?_
                        refine AllReadyH.cons (o := ⟨some 82, _, _, _, _, _⟩) rfl (fun K hK => ?_) (AllReadyH.cons (o := ⟨some 87, _, _, _, _, _⟩) rfl (fun K hK => ?_) AllReadyH.nil)
                        · first | have hx := hri.own | have hx := h0
                          obtain ⟨v1, Wn, hr, hw, ho, hb⟩ := one_append Try.underlying22 hi0 hz0 hz1 hz2 rfl (by decide) Wn wi.heap.size 22 _ (.slice (some ⟨g, 0, none⟩) j c) [] (((L.map Prod.fst).map keyV).take j) hx (HRP.out _ (hWB.trans (hC.mono hWB.size))).1.1 (fun x hx => HKO.out x (List.mem_of_mem_take hx)) (by first | (simp; done) | (simp; omega)) hC.size
                          refine step_append_run rfl _ _ 22 rfl _ _ _ _ rfl rfl hr ?_
                          first | replace hri := hri.app ho hw hb | (clear h0; have h0 := hw)
                          replace hC := hC.trans (ho.below hC.size fun k hk e => by have := (own_lt hx e).1; omega)
                          clear hx hr hw ho hb
                          refine hK.out _ _ ?_ (fun hHeldX => ?_)
                          · exact HTE.out _ (hWB.trans (hC.mono hWB.size))
                          clear hK K hHeld
                          rename _ => hHeld
                          try simp only [Act.put, List.setIfInBounds_toArray, List.set_cons_zero, List.set_cons_succ]
                          refine wpAnyH_ready (rs := [9]) (by kernel_rfl) (by simp) ?_
                          refine AllReadyH.cons (o := ⟨some 87, _, _, _, _, _⟩) rfl (fun K hK => ?_) AllReadyH.nil
                          go_simp
                          first | (have hri := ri_blk h0 (Value.string ⟨t.toArray⟩); clear h0) | have ha : Blk 9 (Wn.alloc (.cells #[Value.string ⟨t.toArray⟩] 9)) Wn.heap.size [Value.string ⟨t.toArray⟩] := Blk.new
                          replace hC := below_step hC (new_below Wn (.cells #[Value.string ⟨t.toArray⟩] 9))
                          generalize World.alloc _ _ = Wn at *
                          refine hK.out _ _ ?_ (fun hHeldX => ?_)
                          · exact HTE.out _ (hWB.trans (hC.mono hWB.size))
                          clear hK K hHeld
                          rename _ => hHeld
                          try simp only [Act.put, List.setIfInBounds_toArray, List.set_cons_zero, List.set_cons_succ]
                          refine wpAnyH_ready (rs := [10]) (by kernel_rfl) (by simp) ?_
                          refine AllReadyH.cons (o := ⟨some 88, _, _, _, _, _⟩) rfl (fun K hK => ?_) AllReadyH.nil
                          obtain ⟨v2, Wn, hr, hw, ho, hb⟩ := one_append Try.underlying22 hi0 hz0 hz1 hz2 rfl (by decide) Wn wi.heap.size 22 _ _ ([] ++ ((L.map Prod.fst).map keyV).take j) [Value.string ⟨t.toArray⟩] hri.own (blk_slice hri.blk) (fun x hx => by rw [List.mem_singleton] at hx; subst hx; rfl) (by first | (simp; done) | (simp; omega)) hC.size
                          refine step_append_run rfl _ _ 22 rfl _ _ _ _ rfl rfl hr ?_
                          replace hC := hC.trans (ho.below hC.size fun k hk e => by have := (own_lt hri.own e).1; omega)
                          have h2 := hw
                          clear hr hw ho hb hri
                          refine hK.out _ _ ?_ (fun hHeldX => ?_)
                          · exact HTE.out _ (hWB.trans (hC.mono hWB.size))
                          clear hK K hHeld
                          rename _ => hHeld
                          try simp only [Act.put, List.setIfInBounds_toArray, List.set_cons_zero, List.set_cons_succ]
                          refine wpAnyH_ready (rs := [14]) (by kernel_rfl) (by simp) ?_
                          refine AllReadyH.cons (o := ⟨some 92, _, _, _, _, _⟩) rfl (fun K hK => ?_) AllReadyH.nil
                          obtain ⟨v3, Wn, hr, hw, ho, hb⟩ := one_append Try.underlying22 hi0 hz0 hz1 hz2 rfl (by decide) Wn wi.heap.size 22 _ (.slice (some ⟨g, j, none⟩) (L.length - j) (c - j)) ([] ++ ((L.map Prod.fst).map keyV).take j ++ [Value.string ⟨t.toArray⟩]) (((L.map Prod.fst).map keyV).drop j) h2 (HRP.out _ (hWB.trans (hC.mono hWB.size))).1.2 (fun x hx => HKO.out x (List.mem_of_mem_drop hx)) (by first | (simp; done) | (simp; omega)) hC.size
                          refine step_append_run rfl _ _ 22 rfl _ _ _ _ rfl rfl hr ?_
                          replace hC := hC.trans (ho.below hC.size fun k hk e => by have := (own_lt h2 e).1; omega)
                          have h3 := hw
                          clear hr hw ho hb h2
                          refine hK.out _ _ ?_ (fun hHeldX => ?_)
                          · exact HTE.out _ (hWB.trans (hC.mono hWB.size))
                          clear hK K hHeld
                          rename _ => hHeld
                          try simp only [Act.put, List.setIfInBounds_toArray, List.set_cons_zero, List.set_cons_succ]
                          refine wpAnyH_take (i := 15) (oi := ⟨some 6, _, _, _, _, _⟩) (v := ?_) rfl (by kernel_rfl) (by kernel_rfl) (by kernel_rfl) (fun _ _ _ h => h) (Or.inl ⟨by rfl, ?_⟩) (by assumption) ?_
                          rotate_left
                          · (intro w hSw; (try dsimp only at hSw); go_simp; try with_reducible rfl)
                          try simp only [Act.put, List.setIfInBounds_toArray, List.set_cons_zero, List.set_cons_succ]
                          refine wpAnyH_done (by kernel_rfl) ?_ _
                          refine NoPanic.normal ?_
                          rw [show List.length (α := Value) (([] ++ ((L.map Prod.fst).map keyV).take j ++ [Value.string ⟨t.toArray⟩]) ++ ((L.map Prod.fst).map keyV).drop j) = L.length + 1 by first | (simp; done) | (simp; omega)] at h3
                          obtain ⟨a3, q3, rfl⟩ := own_form h3
                          go_wp2_with fail
                          go_meet
                          case rel => exact ⟨a3, q3, rfl, Lib.hid h3, Lib.hid hC⟩
                        · go_simp
                          first | (have hri := ri_blk h0 (Value.string ⟨t.toArray⟩); clear h0) | have ha : Blk 9 (Wn.alloc (.cells #[Value.string ⟨t.toArray⟩] 9)) Wn.heap.size [Value.string ⟨t.toArray⟩] := Blk.new
                          replace hC := below_step hC (new_below Wn (.cells #[Value.string ⟨t.toArray⟩] 9))
                          generalize World.alloc _ _ = Wn at *
                          refine hK.out _ _ ?_ (fun hHeldX => ?_)
                          · exact HTE.out _ (hWB.trans (hC.mono hWB.size))
                          clear hK K hHeld
                          rename _ => hHeld
                          try simp only [Act.put, List.setIfInBounds_toArray, List.set_cons_zero, List.set_cons_succ]
                          refine wpAnyH_ready (rs := [4]) (by kernel_rfl) (by simp) ?_
                          refine AllReadyH.cons (o := ⟨some 82, _, _, _, _, _⟩) rfl (fun K hK => ?_) AllReadyH.nil
                          first | have hx := hri.own | have hx := h0
                          obtain ⟨v1, Wn, hr, hw, ho, hb⟩ := one_append Try.underlying22 hi0 hz0 hz1 hz2 rfl (by decide) Wn wi.heap.size 22 _ (.slice (some ⟨g, 0, none⟩) j c) [] (((L.map Prod.fst).map keyV).take j) hx (HRP.out _ (hWB.trans (hC.mono hWB.size))).1.1 (fun x hx => HKO.out x (List.mem_of_mem_take hx)) (by first | (simp; done) | (simp; omega)) hC.size
                          refine step_append_run rfl _ _ 22 rfl _ _ _ _ rfl rfl hr ?_
                          first | replace hri := hri.app ho hw hb | (clear h0; have h0 := hw)
                          replace hC := hC.trans (ho.below hC.size fun k hk e => by have := (own_lt hx e).1; omega)
                          clear hx hr hw ho hb
                          refine hK.out _ _ ?_ (fun hHeldX => ?_)
                          · exact HTE.out _ (hWB.trans (hC.mono hWB.size))
                          clear hK K hHeld
                          rename _ => hHeld
                          try simp only [Act.put, List.setIfInBounds_toArray, List.set_cons_zero, List.set_cons_succ]
                          refine wpAnyH_ready (rs := [10]) (by kernel_rfl) (by simp) ?_
                          refine AllReadyH.cons (o := ⟨some 88, _, _, _, _, _⟩) rfl (fun K hK => ?_) AllReadyH.nil
                          obtain ⟨v2, Wn, hr, hw, ho, hb⟩ := one_append Try.underlying22 hi0 hz0 hz1 hz2 rfl (by decide) Wn wi.heap.size 22 _ _ ([] ++ ((L.map Prod.fst).map keyV).take j) [Value.string ⟨t.toArray⟩] hri.own (blk_slice hri.blk) (fun x hx => by rw [List.mem_singleton] at hx; subst hx; rfl) (by first | (simp; done) | (simp; omega)) hC.size
                          refine step_append_run rfl _ _ 22 rfl _ _ _ _ rfl rfl hr ?_
                          replace hC := hC.trans (ho.below hC.size fun k hk e => by have := (own_lt hri.own e).1; omega)
                          have h2 := hw
                          clear hr hw ho hb hri
                          refine hK.out _ _ ?_ (fun hHeldX => ?_)
                          · exact HTE.out _ (hWB.trans (hC.mono hWB.size))
                          clear hK K hHeld
                          rename _ => hHeld
                          try simp only [Act.put, List.setIfInBounds_toArray, List.set_cons_zero, List.set_cons_succ]
                          refine wpAnyH_ready (rs := [14]) (by kernel_rfl) (by simp) ?_
                          refine AllReadyH.cons (o := ⟨some 92, _, _, _, _, _⟩) rfl (fun K hK => ?_) AllReadyH.nil
                          obtain ⟨v3, Wn, hr, hw, ho, hb⟩ := one_append Try.underlying22 hi0 hz0 hz1 hz2 rfl (by decide) Wn wi.heap.size 22 _ (.slice (some ⟨g, j, none⟩) (L.length - j) (c - j)) ([] ++ ((L.map Prod.fst).map keyV).take j ++ [Value.string ⟨t.toArray⟩]) (((L.map Prod.fst).map keyV).drop j) h2 (HRP.out _ (hWB.trans (hC.mono hWB.size))).1.2 (fun x hx => HKO.out x (List.mem_of_mem_drop hx)) (by first | (simp; done) | (simp; omega)) hC.size
                          refine step_append_run rfl _ _ 22 rfl _ _ _ _ rfl rfl hr ?_
                          replace hC := hC.trans (ho.below hC.size fun k hk e => by have := (own_lt h2 e).1; omega)
                          have h3 := hw
                          clear hr hw ho hb h2
                          refine hK.out _ _ ?_ (fun hHeldX => ?_)
                          · exact HTE.out _ (hWB.trans (hC.mono hWB.size))
                          clear hK K hHeld
                          rename _ => hHeld
                          try simp only [Act.put, List.setIfInBounds_toArray, List.set_cons_zero, List.set_cons_succ]
                          refine wpAnyH_take (i := 15) (oi := ⟨some 6, _, _, _, _, _⟩) (v := ?_) rfl (by kernel_rfl) (by kernel_rfl) (by kernel_rfl) (fun _ _ _ h => h) (Or.inl ⟨by rfl, ?_⟩) (by assumption) ?_
                          rotate_left
                          · (intro w hSw; (try dsimp only at hSw); go_simp; try with_reducible rfl)
                          try simp only [Act.put, List.setIfInBounds_toArray, List.set_cons_zero, List.set_cons_succ]
                          refine wpAnyH_done (by kernel_rfl) ?_ _
                          refine NoPanic.normal ?_
                          rw [show List.length (α := Value) (([] ++ ((L.map Prod.fst).map keyV).take j ++ [Value.string ⟨t.toArray⟩]) ++ ((L.map Prod.fst).map keyV).drop j) = L.length + 1 by first | (simp; done) | (simp; omega)] at h3
                          obtain ⟨a3, q3, rfl⟩ := own_form h3
                          go_wp2_with fail
                          go_meet
                          case rel => exact ⟨a3, q3, rfl, Lib.hid h3, Lib.hid hC⟩
                      · go_simp
                        first | (have hri := ri_blk h0 (Value.string ⟨t.toArray⟩); clear h0) | have ha : Blk 9 (Wn.alloc (.cells #[Value.string ⟨t.toArray⟩] 9)) Wn.heap.size [Value.string ⟨t.toArray⟩] := Blk.new
                        replace hC := below_step hC (new_below Wn (.cells #[Value.string ⟨t.toArray⟩] 9))
                        generalize World.alloc _ _ = Wn at *
                        refine hK.out _ _ ?_ (fun hHeldX => ?_)
                        · exact HTE.out _ (hWB.trans (hC.mono hWB.size))
                        clear hK K hHeld
                        rename _ => hHeld
                        try simp only [Act.put, List.setIfInBounds_toArray, List.set_cons_zero, List.set_cons_succ]
                        refine wpAnyH_ready (rs := [0]) (by kernel_rfl) (by simp) ?_
                        refine AllReadyH.cons (o := ⟨some 78, _, _, _, _, _⟩) rfl (fun K hK => ?_) AllReadyH.nil
                        go_simp
                        first | (have hri := ri_row ha hC.size; clear ha) | have h0 := own_start Wn wi.heap.size 9 hC.size
                        replace hC := below_step hC (new_below Wn (.cells #[] 9))
                        generalize World.alloc _ _ = Wn at *
                        refine hK.out _ _ ?_ (fun hHeldX => ?_)
                        · exact HTE.out _ (hWB.trans (hC.mono hWB.size))
                        clear hK K hHeld
                        rename _ => hHeld
                        try simp only [Act.put, List.setIfInBounds_toArray, List.set_cons_zero, List.set_cons_succ]
                        refine wpAnyH_ready (rs := [4]) (by kernel_rfl) (by simp) ?_
                        refine AllReadyH.cons (o := ⟨some 82, _, _, _, _, _⟩) rfl (fun K hK => ?_) AllReadyH.nil
                        first | have hx := hri.own | have hx := h0
                        obtain ⟨v1, Wn, hr, hw, ho, hb⟩ := one_append Try.underlying22 hi0 hz0 hz1 hz2 rfl (by decide) Wn wi.heap.size 22 _ (.slice (some ⟨g, 0, none⟩) j c) [] (((L.map Prod.fst).map keyV).take j) hx (HRP.out _ (hWB.trans (hC.mono hWB.size))).1.1 (fun x hx => HKO.out x (List.mem_of_mem_take hx)) (by first | (simp; done) | (simp; omega)) hC.size
                        refine step_append_run rfl _ _ 22 rfl _ _ _ _ rfl rfl hr ?_
                        first | replace hri := hri.app ho hw hb | (clear h0; have h0 := hw)
                        replace hC := hC.trans (ho.below hC.size fun k hk e => by have := (own_lt hx e).1; omega)
                        clear hx hr hw ho hb
                        refine hK.out _ _ ?_ (fun hHeldX => ?_)
                        · exact HTE.out _ (hWB.trans (hC.mono hWB.size))
                        clear hK K hHeld
                        rename _ => hHeld
                        try simp only [Act.put, List.setIfInBounds_toArray, List.set_cons_zero, List.set_cons_succ]
                        refine wpAnyH_ready (rs := [10]) (by kernel_rfl) (by simp) ?_
                        refine AllReadyH.cons (o := ⟨some 88, _, _, _, _, _⟩) rfl (fun K hK => ?_) AllReadyH.nil
                        obtain ⟨v2, Wn, hr, hw, ho, hb⟩ := one_append Try.underlying22 hi0 hz0 hz1 hz2 rfl (by decide) Wn wi.heap.size 22 _ _ ([] ++ ((L.map Prod.fst).map keyV).take j) [Value.string ⟨t.toArray⟩] hri.own (blk_slice hri.blk) (fun x hx => by rw [List.mem_singleton] at hx; subst hx; rfl) (by first | (simp; done) | (simp; omega)) hC.size
                        refine step_append_run rfl _ _ 22 rfl _ _ _ _ rfl rfl hr ?_
                        replace hC := hC.trans (ho.below hC.size fun k hk e => by have := (own_lt hri.own e).1; omega)
                        have h2 := hw
                        clear hr hw ho hb hri
                        refine hK.out _ _ ?_ (fun hHeldX => ?_)
                        · exact HTE.out _ (hWB.trans (hC.mono hWB.size))
                        clear hK K hHeld
                        rename _ => hHeld
                        try simp only [Act.put, List.setIfInBounds_toArray, List.set_cons_zero, List.set_cons_succ]
                        refine wpAnyH_ready (rs := [14]) (by kernel_rfl) (by simp) ?_
                        refine AllReadyH.cons (o := ⟨some 92, _, _, _, _, _⟩) rfl (fun K hK => ?_) AllReadyH.nil
                        obtain ⟨v3, Wn, hr, hw, ho, hb⟩ := one_append Try.underlying22 hi0 hz0 hz1 hz2 rfl (by decide) Wn wi.heap.size 22 _ (.slice (some ⟨g, j, none⟩) (L.length - j) (c - j)) ([] ++ ((L.map Prod.fst).map keyV).take j ++ [Value.string ⟨t.toArray⟩]) (((L.map Prod.fst).map keyV).drop j) h2 (HRP.out _ (hWB.trans (hC.mono hWB.size))).1.2 (fun x hx => HKO.out x (List.mem_of_mem_drop hx)) (by first | (simp; done) | (simp; omega)) hC.size
                        refine step_append_run rfl _ _ 22 rfl _ _ _ _ rfl rfl hr ?_
                        replace hC := hC.trans (ho.below hC.size fun k hk e => by have := (own_lt h2 e).1; omega)
                        have h3 := hw
                        clear hr hw ho hb h2
                        refine hK.out _ _ ?_ (fun hHeldX => ?_)
                        · exact HTE.out _ (hWB.trans (hC.mono hWB.size))
                        clear hK K hHeld
                        rename _ => hHeld
                        try simp only [Act.put, List.setIfInBounds_toArray, List.set_cons_zero, List.set_cons_succ]
                        refine wpAnyH_take (i := 15) (oi := ⟨some 6, _, _, _, _, _⟩) (v := ?_) rfl (by kernel_rfl) (by kernel_rfl) (by kernel_rfl) (fun _ _ _ h => h) (Or.inl ⟨by rfl, ?_⟩) (by assumption) ?_
                        rotate_left
                        · (intro w hSw; (try dsimp only at hSw); go_simp; try with_reducible rfl)
                        try simp only [Act.put, List.setIfInBounds_toArray, List.set_cons_zero, List.set_cons_succ]
                        refine wpAnyH_done (by kernel_rfl) ?_ _
                        refine NoPanic.normal ?_
                        rw [show List.length (α := Value) (([] ++ ((L.map Prod.fst).map keyV).take j ++ [Value.string ⟨t.toArray⟩]) ++ ((L.map Prod.fst).map keyV).drop j) = L.length + 1 by first | (simp; done) | (simp; omega)] at h3
                        obtain ⟨a3, q3, rfl⟩ := own_form h3
                        go_wp2_with fail
                        go_meet
                        case rel => exact ⟨a3, q3, rfl, Lib.hid h3, Lib.hid hC⟩
                    case rest =>
                      obtain ⟨a8, q8, rfl, HO1, HC1⟩ := hcut
                      replace hWB := hWB.trans (HC1.out.mono hWB.size)
                      generalize wc = wj at *
                      go_wp2_with fail
                      have hC : Below wj.heap.size wj wj.drew := (Below.refl _ _).drew
                      refine wp_region_noPanic ?_
                      refine wp_region_held_drew (S := (fun w' => w'.cell? ⟨b1, f1 + k, none⟩ = some (.string ⟨t.toArray⟩) ∧ w'.cell? ⟨b2, f2 + k, none⟩ = some (.int .i64 i))) (by kernel_rfl) ?_ (fun hHeld => ?_)
                      · exact HTE.out _ (hWB.trans (hC.mono hWB.size))
                      generalize wj.drew = Wn at hC hHeld ⊢
                      refine wpAnyH_take (i := 1) (oi := ⟨some 94, _, _, _, _, _⟩) (v := ?_) rfl (by kernel_rfl) (by kernel_rfl) (by kernel_rfl) (fun _ _ _ h => h) (Or.inl ⟨by rfl, ?_⟩) (by assumption) ?_
                      rotate_left
                      · (intro w hSw; (try dsimp only at hSw); go_simp; try with_reducible rfl)
                      try simp only [Act.put, List.setIfInBounds_toArray, List.set_cons_zero, List.set_cons_succ]
                      refine wpAnyH_take (i := 2) (oi := ⟨some 95, _, _, _, _, _⟩) (v := ?_) rfl (by kernel_rfl) (by kernel_rfl) (by kernel_rfl) (fun _ _ _ h => h) (Or.inl ⟨by rfl, ?_⟩) (by assumption) ?_
                      rotate_left
                      · (intro w hSw; (try dsimp only at hSw); go_simp; try with_reducible rfl)
                      try simp only [Act.put, List.setIfInBounds_toArray, List.set_cons_zero, List.set_cons_succ]
                      refine wpAnyH_take (i := 3) (oi := ⟨some 96, _, _, _, _, _⟩) (v := ?_) rfl (by kernel_rfl) (by kernel_rfl) (by kernel_rfl) (fun _ _ _ h => h) (Or.inl ⟨by rfl, ?_⟩) (by assumption) ?_
                      rotate_left
                      · (intro w hSw; (try dsimp only at hSw); go_simp; try with_reducible rfl)
                      try simp only [Act.put, List.setIfInBounds_toArray, List.set_cons_zero, List.set_cons_succ]
                      refine wpAnyH_take (i := 5) (oi := ⟨some 98, _, _, _, _, _⟩) (v := ?_) rfl (by kernel_rfl) (by kernel_rfl) (by kernel_rfl) (fun _ _ _ h => h) (Or.inl ⟨by rfl, ?_⟩) (by assumption) ?_
                      rotate_left
                      · (intro w hSw; (try dsimp only at hSw); go_simp; try with_reducible rfl)
                      try simp only [Act.put, List.setIfInBounds_toArray, List.set_cons_zero, List.set_cons_succ]
                      refine wpAnyH_take (i := 6) (oi := ⟨some 99, _, _, _, _, _⟩) (v := ?_) rfl (by kernel_rfl) (by kernel_rfl) (by kernel_rfl) (fun _ _ _ h => h) (Or.inl ⟨by rfl, ?_⟩) (by assumption) ?_
                      rotate_left
                      · (intro w hSw; (try dsimp only at hSw); go_simp; try with_reducible rfl)
                      try simp only [Act.put, List.setIfInBounds_toArray, List.set_cons_zero, List.set_cons_succ]
                      refine wpAnyH_take (i := 7) (oi := ⟨some 100, _, _, _, _, _⟩) (v := ?_) rfl (by kernel_rfl) (by kernel_rfl) (by kernel_rfl) (fun _ _ _ h => h) (Or.inl ⟨by rfl, ?_⟩) (by assumption) ?_
                      rotate_left
                      · (intro w hSw; (try dsimp only at hSw); go_simp; try with_reducible rfl)
                      try simp only [Act.put, List.setIfInBounds_toArray, List.set_cons_zero, List.set_cons_succ]
                      refine wpAnyH_take (i := 8) (oi := ⟨some 101, _, _, _, _, _⟩) (v := ?_) rfl (by kernel_rfl) (by kernel_rfl) (by kernel_rfl) (fun _ _ _ h => h) (Or.inl ⟨by rfl, ?_⟩) (by assumption) ?_
                      rotate_left
                      · (intro w hSw; (try dsimp only at hSw); go_simp; try with_reducible rfl)
                      try simp only [Act.put, List.setIfInBounds_toArray, List.set_cons_zero, List.set_cons_succ]
                      refine wpAnyH_take (i := 11) (oi := ⟨some 104, _, _, _, _, _⟩) (v := ?_) rfl (by kernel_rfl) (by kernel_rfl) (by kernel_rfl) (fun _ _ _ h => h) (Or.inl ⟨by rfl, ?_⟩) (by assumption) ?_
                      rotate_left
                      · (intro w hSw; (try dsimp only at hSw); go_simp; try with_reducible rfl)
                      try simp only [Act.put, List.setIfInBounds_toArray, List.set_cons_zero, List.set_cons_succ]
                      refine wpAnyH_take (i := 12) (oi := ⟨some 105, _, _, _, _, _⟩) (v := ?_) rfl (by kernel_rfl) (by kernel_rfl) (by kernel_rfl) (fun _ _ _ h => h) (Or.inl ⟨by rfl, ?_⟩) (by assumption) ?_
                      rotate_left
                      · (intro w hSw; (try dsimp only at hSw); go_simp; try with_reducible rfl)
                      try simp only [Act.put, List.setIfInBounds_toArray, List.set_cons_zero, List.set_cons_succ]
                      refine wpAnyH_take (i := 13) (oi := ⟨some 106, _, _, _, _, _⟩) (v := ?_) rfl (by kernel_rfl) (by kernel_rfl) (by kernel_rfl) (fun _ _ _ h => h) (Or.inl ⟨by rfl, ?_⟩) (by assumption) ?_
                      rotate_left
                      · (intro w hSw; (try dsimp only at hSw); go_simp; try with_reducible rfl)
                      try simp only [Act.put, List.setIfInBounds_toArray, List.set_cons_zero, List.set_cons_succ]
                      refine wpAnyH_ready (rs := [0, 9]) (by kernel_rfl) (by simp) ?_
                      refine AllReadyH.cons (o := ⟨some 93, _, _, _, _, _⟩) rfl (fun K hK => ?_) (AllReadyH.cons (o := ⟨some 102, _, _, _, _, _⟩) rfl (fun K hK => ?_) AllReadyH.nil)
                      · go_simp
                        first | (have hri := ri_row ha hC.size; clear ha) | have h0 := own_start Wn wj.heap.size 3 hC.size
                        replace hC := below_step hC (new_below Wn (.cells #[] 3))
                        generalize World.alloc _ _ = Wn at *
                        refine hK.out _ _ ?_ (fun hHeldX => ?_)
                        · exact HTE.out _ (hWB.trans (hC.mono hWB.size))
                        clear hK K hHeld
                        rename _ => hHeld
                        try simp only [Act.put, List.setIfInBounds_toArray, List.set_cons_zero, List.set_cons_succ]
                        refine wpAnyH_ready (rs := [4, 9]) (by kernel_rfl) (by simp) ?_
                        refine AllReadyH.cons (o := ⟨some 97, _, _, _, _, _⟩) rfl (fun K hK => ?_) (AllReadyH.cons (o := ⟨some 102, _, _, _, _, _⟩) rfl (fun K hK => ?_) AllReadyH.nil)
                        · first | have hx := hri.own | have hx := h0
                          obtain ⟨v1, Wn, hr, hw, ho, hb⟩ := one_append Try.underlying23 hj0 hy0 hy1 hy2 rfl (by decide) Wn wj.heap.size 23 _ (.slice (some ⟨g', 0, none⟩) j c') [] (((L.map Prod.snd).map numV).take j) hx (HRP.out _ (hWB.trans (hC.mono hWB.size))).2.1 (fun x hx => HNO.out x (List.mem_of_mem_take hx)) (by first | (simp; done) | (simp; omega)) hC.size
                          refine step_append_run rfl _ _ 23 rfl _ _ _ _ rfl rfl hr ?_
                          first | replace hri := hri.app ho hw hb | (clear h0; have h0 := hw)
                          replace hC := hC.trans (ho.below hC.size fun k hk e => by have := (own_lt hx e).1; omega)
                          clear hx hr hw ho hb
                          refine hK.out _ _ ?_ (fun hHeldX => ?_)
                          · exact HTE.out _ (hWB.trans (hC.mono hWB.size))
                          clear hK K hHeld
                          rename _ => hHeld
                          try simp only [Act.put, List.setIfInBounds_toArray, List.set_cons_zero, List.set_cons_succ]
                          refine wpAnyH_ready (rs := [9]) (by kernel_rfl) (by simp) ?_
                          refine AllReadyH.cons (o := ⟨some 102, _, _, _, _, _⟩) rfl (fun K hK => ?_) AllReadyH.nil
                          go_simp
                          first | (have hri := ri_blk h0 (Value.int .i64 i); clear h0) | have ha : Blk 3 (Wn.alloc (.cells #[Value.int .i64 i] 3)) Wn.heap.size [Value.int .i64 i] := Blk.new
                          replace hC := below_step hC (new_below Wn (.cells #[Value.int .i64 i] 3))
                          generalize World.alloc _ _ = Wn at *
                          refine hK.out _ _ ?_ (fun hHeldX => ?_)
                          · exact HTE.out _ (hWB.trans (hC.mono hWB.size))
                          clear hK K hHeld
                          rename _ => hHeld
                          try simp only [Act.put, List.setIfInBounds_toArray, List.set_cons_zero, List.set_cons_succ]
                          refine wpAnyH_ready (rs := [10]) (by kernel_rfl) (by simp) ?_
                          refine AllReadyH.cons (o := ⟨some 103, _, _, _, _, _⟩) rfl (fun K hK => ?_) AllReadyH.nil
                          obtain ⟨v2, Wn, hr, hw, ho, hb⟩ := one_append Try.underlying23 hj0 hy0 hy1 hy2 rfl (by decide) Wn wj.heap.size 23 _ _ ([] ++ ((L.map Prod.snd).map numV).take j) [Value.int .i64 i] hri.own (blk_slice hri.blk) (fun x hx => by rw [List.mem_singleton] at hx; subst hx; rfl) (by first | (simp; done) | (simp; omega)) hC.size
                          refine step_append_run rfl _ _ 23 rfl _ _ _ _ rfl rfl hr ?_
                          replace hC := hC.trans (ho.below hC.size fun k hk e => by have := (own_lt hri.own e).1; omega)
                          have h2 := hw
                          clear hr hw ho hb hri
                          refine hK.out _ _ ?_ (fun hHeldX => ?_)
                          · exact HTE.out _ (hWB.trans (hC.mono hWB.size))
                          clear hK K hHeld
                          rename _ => hHeld
                          try simp only [Act.put, List.setIfInBounds_toArray, List.set_cons_zero, List.set_cons_succ]
                          refine wpAnyH_ready (rs := [14]) (by kernel_rfl) (by simp) ?_
                          refine AllReadyH.cons (o := ⟨some 107, _, _, _, _, _⟩) rfl (fun K hK => ?_) AllReadyH.nil
                          obtain ⟨v3, Wn, hr, hw, ho, hb⟩ := one_append Try.underlying23 hj0 hy0 hy1 hy2 rfl (by decide) Wn wj.heap.size 23 _ (.slice (some ⟨g', j, none⟩) (L.length - j) (c' - j)) ([] ++ ((L.map Prod.snd).map numV).take j ++ [Value.int .i64 i]) (((L.map Prod.snd).map numV).drop j) h2 (HRP.out _ (hWB.trans (hC.mono hWB.size))).2.2 (fun x hx => HNO.out x (List.mem_of_mem_drop hx)) (by first | (simp; done) | (simp; omega)) hC.size
                          refine step_append_run rfl _ _ 23 rfl _ _ _ _ rfl rfl hr ?_
                          replace hC := hC.trans (ho.below hC.size fun k hk e => by have := (own_lt h2 e).1; omega)
                          have h3 := hw
                          clear hr hw ho hb h2
                          refine hK.out _ _ ?_ (fun hHeldX => ?_)
                          · exact HTE.out _ (hWB.trans (hC.mono hWB.size))
                          clear hK K hHeld
                          rename _ => hHeld
                          try simp only [Act.put, List.setIfInBounds_toArray, List.set_cons_zero, List.set_cons_succ]
                          refine wpAnyH_take (i := 15) (oi := ⟨some 7, _, _, _, _, _⟩) (v := ?_) rfl (by kernel_rfl) (by kernel_rfl) (by kernel_rfl) (fun _ _ _ h => h) (Or.inl ⟨by rfl, ?_⟩) (by assumption) ?_
                          rotate_left
                          · (intro w hSw; (try dsimp only at hSw); go_simp; try with_reducible rfl)
                          try simp only [Act.put, List.setIfInBounds_toArray, List.set_cons_zero, List.set_cons_succ]
                          refine wpAnyH_done (by kernel_rfl) ?_ _
                          refine NoPanic.normal ?_
                          rw [show List.length (α := Value) (([] ++ ((L.map Prod.snd).map numV).take j ++ [Value.int .i64 i]) ++ ((L.map Prod.snd).map numV).drop j) = L.length + 1 by first | (simp; done) | (simp; omega)] at h3
                          obtain ⟨a4, q4, rfl⟩ := own_form h3
                          obtain ⟨hli, hps⟩ := rps_ins (x := (t, i)) (L := L) (j := j) HWI.out HIZ.out HO1.out HC1.out h3 hC
                          have HPS := Lib.hid hps
                          have HLI := Lib.hid hli
                          have HNE : Hid (insZ (t, i) L = [] → a8 = none ∧ q8 = 0 ∧ a4 = none ∧ q4 = 0) := Lib.hid fun e => by rw [e] at hli; simp at hli
                          clear hps hli h3 hC
                          go_wp2_with fail
                          go_roundw
                          case rel => exact ⟨k + 1, insZ (t, i) L, a8, a4, q8, q4, by omega, by rw [HLI.out], by rw [HLI.out], by go_num, Lib.hid HIN.out.symm, HNE, by rw [HLI.out]; exact HPS⟩
                          case measure => simp [intOf]; omega
                        · go_simp
                          first | (have hri := ri_blk h0 (Value.int .i64 i); clear h0) | have ha : Blk 3 (Wn.alloc (.cells #[Value.int .i64 i] 3)) Wn.heap.size [Value.int .i64 i] := Blk.new
                          replace hC := below_step hC (new_below Wn (.cells #[Value.int .i64 i] 3))
                          generalize World.alloc _ _ = Wn at *
                          refine hK.out _ _ ?_ (fun hHeldX => ?_)
                          · exact HTE.out _ (hWB.trans (hC.mono hWB.size))
                          clear hK K hHeld
                          rename _ => hHeld
                          try simp only [Act.put, List.setIfInBounds_toArray, List.set_cons_zero, List.set_cons_succ]
                          refine wpAnyH_ready (rs := [4]) (by kernel_rfl) (by simp) ?_
                          refine AllReadyH.cons (o := ⟨some 97, _, _, _, _, _⟩) rfl (fun K hK => ?_) AllReadyH.nil
                          first | have hx := hri.own | have hx := h0
                          obtain ⟨v1, Wn, hr, hw, ho, hb⟩ := one_append Try.underlying23 hj0 hy0 hy1 hy2 rfl (by decide) Wn wj.heap.size 23 _ (.slice (some ⟨g', 0, none⟩) j c') [] (((L.map Prod.snd).map numV).take j) hx (HRP.out _ (hWB.trans (hC.mono hWB.size))).2.1 (fun x hx => HNO.out x (List.mem_of_mem_take hx)) (by first | (simp; done) | (simp; omega)) hC.size
                          refine step_append_run rfl _ _ 23 rfl _ _ _ _ rfl rfl hr ?_
                          first | replace hri := hri.app ho hw hb | (clear h0; have h0 := hw)
                          replace hC := hC.trans (ho.below hC.size fun k hk e => by have := (own_lt hx e).1; omega)
                          clear hx hr hw ho hb
                          refine hK.out _ _ ?_ (fun hHeldX => ?_)
                          · exact HTE.out _ (hWB.trans (hC.mono hWB.size))
                          clear hK K hHeld
                          rename _ => hHeld
                          try simp only [Act.put, List.setIfInBounds_toArray, List.set_cons_zero, List.set_cons_succ]
                          refine wpAnyH_ready (rs := [10]) (by kernel_rfl) (by simp) ?_
                          refine AllReadyH.cons (o := ⟨some 103, _, _, _, _, _⟩) rfl (fun K hK => ?_) AllReadyH.nil
                          obtain ⟨v2, Wn, hr, hw, ho, hb⟩ := one_append Try.underlying23 hj0 hy0 hy1 hy2 rfl (by decide) Wn wj.heap.size 23 _ _ ([] ++ ((L.map Prod.snd).map numV).take j) [Value.int .i64 i] hri.own (blk_slice hri.blk) (fun x hx => by rw [List.mem_singleton] at hx; subst hx; rfl) (by first | (simp; done) | (simp; omega)) hC.size
                          refine step_append_run rfl _ _ 23 rfl _ _ _ _ rfl rfl hr ?_
                          replace hC := hC.trans (ho.below hC.size fun k hk e => by have := (own_lt hri.own e).1; omega)
                          have h2 := hw
                          clear hr hw ho hb hri
                          refine hK.out _ _ ?_ (fun hHeldX => ?_)
                          · exact HTE.out _ (hWB.trans (hC.mono hWB.size))
                          clear hK K hHeld
                          rename _ => hHeld
                          try simp only [Act.put, List.setIfInBounds_toArray, List.set_cons_zero, List.set_cons_succ]
                          refine wpAnyH_ready (rs := [14]) (by kernel_rfl) (by simp) ?_
                          refine AllReadyH.cons (o := ⟨some 107, _, _, _, _, _⟩) rfl (fun K hK => ?_) AllReadyH.nil
                          obtain ⟨v3, Wn, hr, hw, ho, hb⟩ := one_append Try.underlying23 hj0 hy0 hy1 hy2 rfl (by decide) Wn wj.heap.size 23 _ (.slice (some ⟨g', j, none⟩) (L.length - j) (c' - j)) ([] ++ ((L.map Prod.snd).map numV).take j ++ [Value.int .i64 i]) (((L.map Prod.snd).map numV).drop j) h2 (HRP.out _ (hWB.trans (hC.mono hWB.size))).2.2 (fun x hx => HNO.out x (List.mem_of_mem_drop hx)) (by first | (simp; done) | (simp; omega)) hC.size
                          refine step_append_run rfl _ _ 23 rfl _ _ _ _ rfl rfl hr ?_
                          replace hC := hC.trans (ho.below hC.size fun k hk e => by have := (own_lt h2 e).1; omega)
                          have h3 := hw
                          clear hr hw ho hb h2
                          refine hK.out _ _ ?_ (fun hHeldX => ?_)
                          · exact HTE.out _ (hWB.trans (hC.mono hWB.size))
                          clear hK K hHeld
                          rename _ => hHeld
                          try simp only [Act.put, List.setIfInBounds_toArray, List.set_cons_zero, List.set_cons_succ]
                          refine wpAnyH_take (i := 15) (oi := ⟨some 7, _, _, _, _, _⟩) (v := ?_) rfl (by kernel_rfl) (by kernel_rfl) (by kernel_rfl) (fun _ _ _ h => h) (Or.inl ⟨by rfl, ?_⟩) (by assumption) ?_
                          rotate_left
                          · (intro w hSw; (try dsimp only at hSw); go_simp; try with_reducible rfl)
                          try simp only [Act.put, List.setIfInBounds_toArray, List.set_cons_zero, List.set_cons_succ]
                          refine wpAnyH_done (by kernel_rfl) ?_ _
                          refine NoPanic.normal ?_
                          rw [show List.length (α := Value) (([] ++ ((L.map Prod.snd).map numV).take j ++ [Value.int .i64 i]) ++ ((L.map Prod.snd).map numV).drop j) = L.length + 1 by first | (simp; done) | (simp; omega)] at h3
                          obtain ⟨a4, q4, rfl⟩ := own_form h3
                          obtain ⟨hli, hps⟩ := rps_ins (x := (t, i)) (L := L) (j := j) HWI.out HIZ.out HO1.out HC1.out h3 hC
                          have HPS := Lib.hid hps
                          have HLI := Lib.hid hli
                          have HNE : Hid (insZ (t, i) L = [] → a8 = none ∧ q8 = 0 ∧ a4 = none ∧ q4 = 0) := Lib.hid fun e => by rw [e] at hli; simp at hli
                          clear hps hli h3 hC
                          go_wp2_with fail
                          go_roundw
                          case rel => exact ⟨k + 1, insZ (t, i) L, a8, a4, q8, q4, by omega, by rw [HLI.out], by rw [HLI.out], by go_num, Lib.hid HIN.out.symm, HNE, by rw [HLI.out]; exact HPS⟩
                          case measure => simp [intOf]; omega
                      · go_simp
                        first | (have hri := ri_blk h0 (Value.int .i64 i); clear h0) | have ha : Blk 3 (Wn.alloc (.cells #[Value.int .i64 i] 3)) Wn.heap.size [Value.int .i64 i] := Blk.new
                        replace hC := below_step hC (new_below Wn (.cells #[Value.int .i64 i] 3))
                        generalize World.alloc _ _ = Wn at *
                        refine hK.out _ _ ?_ (fun hHeldX => ?_)
                        · exact HTE.out _ (hWB.trans (hC.mono hWB.size))
                        clear hK K hHeld
                        rename _ => hHeld
                        try simp only [Act.put, List.setIfInBounds_toArray, List.set_cons_zero, List.set_cons_succ]
                        refine wpAnyH_ready (rs := [0]) (by kernel_rfl) (by simp) ?_
                        refine AllReadyH.cons (o := ⟨some 93, _, _, _, _, _⟩) rfl (fun K hK => ?_) AllReadyH.nil
                        go_simp
                        first | (have hri := ri_row ha hC.size; clear ha) | have h0 := own_start Wn wj.heap.size 3 hC.size
                        replace hC := below_step hC (new_below Wn (.cells #[] 3))
                        generalize World.alloc _ _ = Wn at *
                        refine hK.out _ _ ?_ (fun hHeldX => ?_)
                        · exact HTE.out _ (hWB.trans (hC.mono hWB.size))
                        clear hK K hHeld
                        rename _ => hHeld
                        try simp only [Act.put, List.setIfInBounds_toArray, List.set_cons_zero, List.set_cons_succ]
                        refine wpAnyH_ready (rs := [4]) (by kernel_rfl) (by simp) ?_
                        refine AllReadyH.cons (o := ⟨some 97, _, _, _, _, _⟩) rfl (fun K hK => ?_) AllReadyH.nil
                        first | have hx := hri.own | have hx := h0
                        obtain ⟨v1, Wn, hr, hw, ho, hb⟩ := one_append Try.underlying23 hj0 hy0 hy1 hy2 rfl (by decide) Wn wj.heap.size 23 _ (.slice (some ⟨g', 0, none⟩) j c') [] (((L.map Prod.snd).map numV).take j) hx (HRP.out _ (hWB.trans (hC.mono hWB.size))).2.1 (fun x hx => HNO.out x (List.mem_of_mem_take hx)) (by first | (simp; done) | (simp; omega)) hC.size
                        refine step_append_run rfl _ _ 23 rfl _ _ _ _ rfl rfl hr ?_
                        first | replace hri := hri.app ho hw hb | (clear h0; have h0 := hw)
                        replace hC := hC.trans (ho.below hC.size fun k hk e => by have := (own_lt hx e).1; omega)
                        clear hx hr hw ho hb
                        refine hK.out _ _ ?_ (fun hHeldX => ?_)
                        · exact HTE.out _ (hWB.trans (hC.mono hWB.size))
                        clear hK K hHeld
                        rename _ => hHeld
                        try simp only [Act.put, List.setIfInBounds_toArray, List.set_cons_zero, List.set_cons_succ]
                        refine wpAnyH_ready (rs := [10]) (by kernel_rfl) (by simp) ?_
                        refine AllReadyH.cons (o := ⟨some 103, _, _, _, _, _⟩) rfl (fun K hK => ?_) AllReadyH.nil
                        obtain ⟨v2, Wn, hr, hw, ho, hb⟩ := one_append Try.underlying23 hj0 hy0 hy1 hy2 rfl (by decide) Wn wj.heap.size 23 _ _ ([] ++ ((L.map Prod.snd).map numV).take j) [Value.int .i64 i] hri.own (blk_slice hri.blk) (fun x hx => by rw [List.mem_singleton] at hx; subst hx; rfl) (by first | (simp; done) | (simp; omega)) hC.size
                        refine step_append_run rfl _ _ 23 rfl _ _ _ _ rfl rfl hr ?_
                        replace hC := hC.trans (ho.below hC.size fun k hk e => by have := (own_lt hri.own e).1; omega)
                        have h2 := hw
                        clear hr hw ho hb hri
                        refine hK.out _ _ ?_ (fun hHeldX => ?_)
                        · exact HTE.out _ (hWB.trans (hC.mono hWB.size))
                        clear hK K hHeld
                        rename _ => hHeld
                        try simp only [Act.put, List.setIfInBounds_toArray, List.set_cons_zero, List.set_cons_succ]
                        refine wpAnyH_ready (rs := [14]) (by kernel_rfl) (by simp) ?_
                        refine AllReadyH.cons (o := ⟨some 107, _, _, _, _, _⟩) rfl (fun K hK => ?_) AllReadyH.nil
                        obtain ⟨v3, Wn, hr, hw, ho, hb⟩ := one_append Try.underlying23 hj0 hy0 hy1 hy2 rfl (by decide) Wn wj.heap.size 23 _ (.slice (some ⟨g', j, none⟩) (L.length - j) (c' - j)) ([] ++ ((L.map Prod.snd).map numV).take j ++ [Value.int .i64 i]) (((L.map Prod.snd).map numV).drop j) h2 (HRP.out _ (hWB.trans (hC.mono hWB.size))).2.2 (fun x hx => HNO.out x (List.mem_of_mem_drop hx)) (by first | (simp; done) | (simp; omega)) hC.size
                        refine step_append_run rfl _ _ 23 rfl _ _ _ _ rfl rfl hr ?_
                        replace hC := hC.trans (ho.below hC.size fun k hk e => by have := (own_lt h2 e).1; omega)
                        have h3 := hw
                        clear hr hw ho hb h2
                        refine hK.out _ _ ?_ (fun hHeldX => ?_)
                        · exact HTE.out _ (hWB.trans (hC.mono hWB.size))
                        clear hK K hHeld
                        rename _ => hHeld
                        try simp only [Act.put, List.setIfInBounds_toArray, List.set_cons_zero, List.set_cons_succ]
                        refine wpAnyH_take (i := 15) (oi := ⟨some 7, _, _, _, _, _⟩) (v := ?_) rfl (by kernel_rfl) (by kernel_rfl) (by kernel_rfl) (fun _ _ _ h => h) (Or.inl ⟨by rfl, ?_⟩) (by assumption) ?_
                        rotate_left
                        · (intro w hSw; (try dsimp only at hSw); go_simp; try with_reducible rfl)
                        try simp only [Act.put, List.setIfInBounds_toArray, List.set_cons_zero, List.set_cons_succ]
                        refine wpAnyH_done (by kernel_rfl) ?_ _
                        refine NoPanic.normal ?_
                        rw [show List.length (α := Value) (([] ++ ((L.map Prod.snd).map numV).take j ++ [Value.int .i64 i]) ++ ((L.map Prod.snd).map numV).drop j) = L.length + 1 by first | (simp; done) | (simp; omega)] at h3
                        obtain ⟨a4, q4, rfl⟩ := own_form h3
                        obtain ⟨hli, hps⟩ := rps_ins (x := (t, i)) (L := L) (j := j) HWI.out HIZ.out HO1.out HC1.out h3 hC
                        have HPS := Lib.hid hps
                        have HLI := Lib.hid hli
                        have HNE : Hid (insZ (t, i) L = [] → a8 = none ∧ q8 = 0 ∧ a4 = none ∧ q4 = 0) := Lib.hid fun e => by rw [e] at hli; simp at hli
                        clear hps hli h3 hC
                        go_wp2_with fail
                        go_roundw
                        case rel => exact ⟨k + 1, insZ (t, i) L, a8, a4, q8, q4, by omega, by rw [HLI.out], by rw [HLI.out], by go_num, Lib.hid HIN.out.symm, HNE, by rw [HLI.out]; exact HPS⟩
                        case measure => simp [intOf]; omega
                  · have HL2 : Hid (L = refZ ((T.zip N).take (k + 1))) := Lib.hid (by rw [HIN.out, HIZ0.out, if_pos (by rw [of_decide_eq_true hdd])])
                    have HST2 := Lib.hid (ST.out.below HCC.out)
                    go_wp2_with fail
                    go_roundw
                    case rel => exact ⟨k + 1, L, _, _, c, c', by omega, rfl, rfl, by go_num, HL2, HNL, HST2⟩
                    case measure => simp [intOf]; omega
              · have HAH : Hid (∀ w, Calls Try.prog 18 #[.string ⟨yt.toArray⟩, .int .i64 yi, .string ⟨t.toArray⟩, .int .i64 i] w fun e w' => e = .returned (.bool true) ∧ Below w.heap.size w w') := Lib.hid fun w => by
                  rw [← hah]; exact ref_Ahead yt t yi i w (by omega) (by omega)
                have HPJ2 : Hid (∀ (q : Nat) y, q < j + 1 → L[q]? = some y → ahZ y (t, i) = true) := Lib.hid fun q z hq hz => by
                  by_cases e : q = j
                  · subst e; rw [hy] at hz; injection hz with hz; rw [← hz]; exact hah
                  · exact HPJ.out q z (by omega) hz
                clear hy hah
                go_wp2_with fail
                refine wp_region_noPanic ?_
                refine wp_region_held_drew (S := (fun w' => (w'.cell? ⟨g, j, none⟩ = some (.string ⟨yt.toArray⟩) ∧ w'.cell? ⟨g', j, none⟩ = some (.int .i64 yi)) ∧ (w'.cell? ⟨b1, f1 + k, none⟩ = some (.string ⟨t.toArray⟩) ∧ w'.cell? ⟨b2, f2 + k, none⟩ = some (.int .i64 i)))) (by kernel_rfl) ?_ (fun hHeld => ?_)
                · exact SK.out _ hC
                refine wpAnyH_take (i := 0) (oi := ⟨some 27, _, _, _, _, _⟩) (v := ?_) rfl (by kernel_rfl) (by kernel_rfl) (by kernel_rfl) (fun _ _ _ h => h) (Or.inl ⟨by rfl, ?_⟩) (by assumption) ?_
                rotate_left
                · (intro w hSw; (try dsimp only at hSw); go_simp; try with_reducible rfl)
                try simp only [Act.put, List.setIfInBounds_toArray, List.set_cons_zero, List.set_cons_succ]
                refine wpAnyH_take (i := 1) (oi := ⟨some 28, _, _, _, _, _⟩) (v := ?_) rfl (by kernel_rfl) (by kernel_rfl) (by kernel_rfl) (fun _ _ _ h => h) (Or.inl ⟨by rfl, ?_⟩) (by assumption) ?_
                rotate_left
                · (intro w hSw; (try dsimp only at hSw); go_simp; try with_reducible rfl)
                try simp only [Act.put, List.setIfInBounds_toArray, List.set_cons_zero, List.set_cons_succ]
                refine wpAnyH_take (i := 2) (oi := ⟨some 29, _, _, _, _, _⟩) (v := ?_) rfl (by kernel_rfl) (by kernel_rfl) (by kernel_rfl) (fun _ _ _ h => h) (Or.inl ⟨by rfl, ?_⟩) (by assumption) ?_
                rotate_left
                · (intro w hSw; (try dsimp only at hSw); go_simp; try with_reducible rfl)
                try simp only [Act.put, List.setIfInBounds_toArray, List.set_cons_zero, List.set_cons_succ]
                refine wpAnyH_take (i := 3) (oi := ⟨some 30, _, _, _, _, _⟩) (v := ?_) rfl (by kernel_rfl) (by kernel_rfl) (by kernel_rfl) (fun _ _ _ h => h) (Or.inl ⟨by rfl, ?_⟩) (by assumption) ?_
                rotate_left
                · (intro w hSw; (try dsimp only at hSw); go_simp; try with_reducible rfl)
                try simp only [Act.put, List.setIfInBounds_toArray, List.set_cons_zero, List.set_cons_succ]
                refine wpAnyH_take (i := 4) (oi := ⟨some 31, _, _, _, _, _⟩) (v := ?_) rfl (by kernel_rfl) (by kernel_rfl) (by kernel_rfl) (fun _ _ _ h => h) (Or.inl ⟨by rfl, ?_⟩) (by assumption) ?_
                rotate_left
                · (intro w hSw; (try dsimp only at hSw); go_simp; try with_reducible rfl)
                try simp only [Act.put, List.setIfInBounds_toArray, List.set_cons_zero, List.set_cons_succ]
                refine wpAnyH_take (i := 5) (oi := ⟨some 32, _, _, _, _, _⟩) (v := ?_) rfl (by kernel_rfl) (by kernel_rfl) (by kernel_rfl) (fun _ _ _ h => h) (Or.inl ⟨by rfl, ?_⟩) (by assumption) ?_
                rotate_left
                · (intro w hSw; (try dsimp only at hSw); go_simp; try with_reducible rfl)
                try simp only [Act.put, List.setIfInBounds_toArray, List.set_cons_zero, List.set_cons_succ]
                refine wpAnyH_take (i := 6) (oi := ⟨some 33, _, _, _, _, _⟩) (v := ?_) rfl (by kernel_rfl) (by kernel_rfl) (by kernel_rfl) (fun _ _ _ h => h) (Or.inl ⟨by rfl, ?_⟩) (by assumption) ?_
                rotate_left
                · (intro w hSw; (try dsimp only at hSw); go_simp; try with_reducible rfl)
                try simp only [Act.put, List.setIfInBounds_toArray, List.set_cons_zero, List.set_cons_succ]
                refine wpAnyH_take (i := 7) (oi := ⟨some 34, _, _, _, _, _⟩) (v := ?_) rfl (by kernel_rfl) (by kernel_rfl) (by kernel_rfl) (fun _ _ _ h => h) (Or.inl ⟨by rfl, ?_⟩) (by assumption) ?_
                rotate_left
                · (intro w hSw; (try dsimp only at hSw); go_simp; try with_reducible rfl)
                try simp only [Act.put, List.setIfInBounds_toArray, List.set_cons_zero, List.set_cons_succ]
                refine wpAnyH_take (i := 8) (oi := ⟨some 35, _, _, _, _, _⟩) (v := ?_) rfl (by kernel_rfl) (by kernel_rfl) (by kernel_rfl) (fun _ _ _ h => h) (Or.inl ⟨by rfl, ?_⟩) (by assumption) ?_
                rotate_left
                · (intro w hSw; (try dsimp only at hSw); go_simp; try with_reducible rfl)
                try simp only [Act.put, List.setIfInBounds_toArray, List.set_cons_zero, List.set_cons_succ]
                refine wpAnyH_take (i := 9) (oi := ⟨some 36, _, _, _, _, _⟩) (v := ?_) rfl (by kernel_rfl) (by kernel_rfl) (by kernel_rfl) (fun _ _ _ h => h) (Or.inl ⟨by rfl, ?_⟩) (by assumption) ?_
                rotate_left
                · (intro w hSw; (try dsimp only at hSw); go_simp; try with_reducible rfl)
                try simp only [Act.put, List.setIfInBounds_toArray, List.set_cons_zero, List.set_cons_succ]
                refine wpAnyH_take (i := 10) (oi := ⟨some 37, _, _, _, _, _⟩) (v := ?_) rfl (by kernel_rfl) (by kernel_rfl) (by kernel_rfl) (fun _ _ _ h => h) (Or.inl ⟨by rfl, ?_⟩) (by assumption) ?_
                rotate_left
                · (intro w hSw; (try dsimp only at hSw); go_simp; try with_reducible rfl)
                try simp only [Act.put, List.setIfInBounds_toArray, List.set_cons_zero, List.set_cons_succ]
                refine wpAnyH_take (i := 11) (oi := ⟨some 38, _, _, _, _, _⟩) (v := ?_) rfl (by kernel_rfl) (by kernel_rfl) (by kernel_rfl) (fun _ _ _ h => h) (Or.inl ⟨by rfl, ?_⟩) (by assumption) ?_
                rotate_left
                · (intro w hSw; (try dsimp only at hSw); go_simp; try with_reducible rfl)
                try simp only [Act.put, List.setIfInBounds_toArray, List.set_cons_zero, List.set_cons_succ]
                refine wpAnyH_take (i := 12) (oi := ⟨some 39, _, _, _, _, _⟩) (v := ?_) rfl (by kernel_rfl) (by kernel_rfl) (by kernel_rfl) (fun _ _ _ h => h) (Or.inl ⟨by rfl, ?_⟩) (by assumption) ?_
                rotate_left
                · (intro w hSw; (try dsimp only at hSw); go_simp; try with_reducible rfl)
                try simp only [Act.put, List.setIfInBounds_toArray, List.set_cons_zero, List.set_cons_succ]
                refine wpAnyH_take (i := 13) (oi := ⟨some 40, _, _, _, _, _⟩) (v := ?_) rfl (by kernel_rfl) (by kernel_rfl) (by kernel_rfl) (fun _ _ _ h => h) (Or.inl ⟨by rfl, ?_⟩) (by assumption) ?_
                rotate_left
                · (intro w hSw; (try dsimp only at hSw); go_simp; try with_reducible rfl)
                try simp only [Act.put, List.setIfInBounds_toArray, List.set_cons_zero, List.set_cons_succ]
                refine wpAnyH_take (i := 14) (oi := ⟨some 41, _, _, _, _, _⟩) (v := ?_) rfl (by kernel_rfl) (by kernel_rfl) (by kernel_rfl) (fun _ _ _ h => h) (Or.inl ⟨by rfl, ?_⟩) (by assumption) ?_
                rotate_left
                · (intro w hSw; (try dsimp only at hSw); go_simp; try with_reducible rfl)
                try simp only [Act.put, List.setIfInBounds_toArray, List.set_cons_zero, List.set_cons_succ]
                refine wpAnyH_take (i := 15) (oi := ⟨some 42, _, _, _, _, _⟩) (v := ?_) rfl (by kernel_rfl) (by kernel_rfl) (by kernel_rfl) (fun _ _ _ h => h) (Or.inl ⟨by rfl, ?_⟩) (by assumption) ?_
                rotate_left
                · (intro w hSw; (try dsimp only at hSw); go_simp; try with_reducible rfl)
                try simp only [Act.put, List.setIfInBounds_toArray, List.set_cons_zero, List.set_cons_succ]
                refine wpAnyH_take (i := 16) (oi := ⟨some 43, _, _, _, _, _⟩) (v := ?_) rfl (by kernel_rfl) (by kernel_rfl) (by kernel_rfl) (fun _ _ _ h => h) (Or.inl ⟨by rfl, ?_⟩) (by assumption) ?_
                rotate_left
                · (intro w hSw; (try dsimp only at hSw); go_simp; try with_reducible rfl)
                try simp only [Act.put, List.setIfInBounds_toArray, List.set_cons_zero, List.set_cons_succ]
                refine wpAnyH_take (i := 17) (oi := ⟨some 44, _, _, _, _, _⟩) (v := ?_) rfl (by kernel_rfl) (by kernel_rfl) (by kernel_rfl) (fun _ _ _ h => h) (Or.inl ⟨by rfl, ?_⟩) (by assumption) ?_
                rotate_left
                · (intro w hSw; (try dsimp only at hSw); go_simp; try with_reducible rfl)
                try simp only [Act.put, List.setIfInBounds_toArray, List.set_cons_zero, List.set_cons_succ]
                refine wpAnyH_take (i := 18) (oi := ⟨some 45, _, _, _, _, _⟩) (v := ?_) rfl (by kernel_rfl) (by kernel_rfl) (by kernel_rfl) (fun _ _ _ h => h) (Or.inl ⟨by rfl, ?_⟩) (by assumption) ?_
                rotate_left
                · (intro w hSw; (try dsimp only at hSw); go_simp; try with_reducible rfl)
                try simp only [Act.put, List.setIfInBounds_toArray, List.set_cons_zero, List.set_cons_succ]
                refine wpAnyH_take (i := 19) (oi := ⟨some 46, _, _, _, _, _⟩) (v := ?_) rfl (by kernel_rfl) (by kernel_rfl) (by kernel_rfl) (fun _ _ _ h => h) (Or.inl ⟨by rfl, ?_⟩) (by assumption) ?_
                rotate_left
                · (intro w hSw; (try dsimp only at hSw); go_simp; try with_reducible rfl)
                try simp only [Act.put, List.setIfInBounds_toArray, List.set_cons_zero, List.set_cons_succ]
                refine wpAnyH_take (i := 20) (oi := ⟨some 47, _, _, _, _, _⟩) (v := ?_) rfl (by kernel_rfl) (by kernel_rfl) (by kernel_rfl) (fun _ _ _ h => h) (Or.inl ⟨by rfl, ?_⟩) (by assumption) ?_
                rotate_left
                · (intro w hSw; (try dsimp only at hSw); go_simp; try with_reducible rfl)
                try simp only [Act.put, List.setIfInBounds_toArray, List.set_cons_zero, List.set_cons_succ]
                refine wpAnyH_ready (rs := [21]) (by kernel_rfl) (by simp) ?_
                refine AllReadyH.cons (o := ⟨some 48, _, _, _, _, _⟩) rfl (fun K hK => ?_) AllReadyH.nil
                go_simp
                refine (HAH.out _).mono ?_
                rintro e w9 ⟨rfl, hB9⟩
                replace hC := below_step hC hB9
                clear hB9
                go_wp2_with fail
                refine hK.out _ _ ?_ (fun hHeldX => ?_)
                · exact SK.out _ hC
                clear hK K hHeld
                rename _ => hHeld
                try simp only [Act.put, List.setIfInBounds_toArray, List.set_cons_zero, List.set_cons_succ]
                refine wpAnyH_take (i := 22) (oi := ⟨some 49, _, _, _, _, _⟩) (v := ?_) rfl (by kernel_rfl) (by kernel_rfl) (by kernel_rfl) (fun _ _ _ h => h) (Or.inl ⟨by rfl, ?_⟩) (by assumption) ?_
                rotate_left
                · (intro w hSw; (try dsimp only at hSw); go_simp; try with_reducible rfl)
                try simp only [Act.put, List.setIfInBounds_toArray, List.set_cons_zero, List.set_cons_succ]
                refine wpAnyH_done (by kernel_rfl) ?_ _
                refine NoPanic.normal ?_
                have HC9 := Lib.hid hC
                clear hC
                go_wp2_with fail
                go_roundw
                case rel => exact ⟨j + 1, by omega, by go_num, HPJ2, HC9⟩
                case measure => simp [intOf]; omega
            · obtain rfl : j = L.length := by omega
              have hpl : plc (fun y => ahZ y (t, i)) L = L.length := (plc_of _ L _ hj (fun q y hq hy => HPJ.out q y hq hy) fun y hy2 => by simp at hy2).symm
              have HIZ : Hid (insZ (t, i) L = L.take L.length ++ (t, i) :: L.drop L.length) := Lib.hid (by
                rw [insZ_plc, hpl, if_neg]
                simp)
              replace HRP : Hid (∀ w', Below wo.heap.size wo w' → (SliceK w' 1 (.slice (some ⟨g, 0, none⟩) L.length c) (((L.map Prod.fst).map keyV).take L.length).length (((L.map Prod.fst).map keyV).take L.length) ∧ SliceK w' 1 (.slice (if c = L.length then some ⟨g, 0, none⟩ else some ⟨g, L.length, none⟩) 0 (c - L.length)) (((L.map Prod.fst).map keyV).drop L.length).length (((L.map Prod.fst).map keyV).drop L.length)) ∧
                (SliceK w' 1 (.slice (some ⟨g', 0, none⟩) L.length c') (((L.map Prod.snd).map numV).take L.length).length (((L.map Prod.snd).map numV).take L.length) ∧ SliceK w' 1 (.slice (if c' = L.length then some ⟨g', 0, none⟩ else some ⟨g', L.length, none⟩) 0 (c' - L.length)) (((L.map Prod.snd).map numV).drop L.length).length (((L.map Prod.snd).map numV).drop L.length))) := Lib.hid fun w' h => by
                have h1 := HRP.out w' h
                have d1 : ((L.map Prod.fst).map keyV).drop L.length = [] := List.drop_eq_nil_of_le (by simp)
                have d2 : ((L.map Prod.snd).map numV).drop L.length = [] := List.drop_eq_nil_of_le (by simp)
                rw [d1, d2]
                exact ⟨⟨h1.1.1, slice_none _ _ _ _ _ (Nat.lt_of_lt_of_le hgl h.size)⟩, ⟨h1.2.1, slice_none _ _ _ _ _ (Nat.lt_of_lt_of_le hgl' h.size)⟩⟩
              clear hpl hjl
              go_wp2_with fail
              refine wp_region_noPanic ?_
              refine wp_region_held_drew (S := fun _ => True) (by kernel_rfl) ?_ (fun hHeld => ?_)
              · trivial
              refine wpAnyH_take (i := 0) (oi := ⟨some 27, _, _, _, _, _⟩) (v := ?_) rfl (by kernel_rfl) (by kernel_rfl) (by kernel_rfl) (fun _ _ _ h => h) (Or.inl ⟨by rfl, ?_⟩) (by assumption) ?_
              rotate_left
              · (intro w hSw; (try dsimp only at hSw); go_simp; try with_reducible rfl)
              try simp only [Act.put, List.setIfInBounds_toArray, List.set_cons_zero, List.set_cons_succ]
              refine wpAnyH_take (i := 1) (oi := ⟨some 28, _, _, _, _, _⟩) (v := ?_) rfl (by kernel_rfl) (by kernel_rfl) (by kernel_rfl) (fun _ _ _ h => h) (Or.inl ⟨by rfl, ?_⟩) (by assumption) ?_
              rotate_left
              · (intro w hSw; (try dsimp only at hSw); go_simp; try with_reducible rfl)
              try simp only [Act.put, List.setIfInBounds_toArray, List.set_cons_zero, List.set_cons_succ]
              refine wpAnyH_take (i := 2) (oi := ⟨some 29, _, _, _, _, _⟩) (v := ?_) rfl (by kernel_rfl) (by kernel_rfl) (by kernel_rfl) (fun _ _ _ h => h) (Or.inl ⟨by rfl, ?_⟩) (by assumption) ?_
              rotate_left
              · (intro w hSw; (try dsimp only at hSw); go_simp; try with_reducible rfl)
              try simp only [Act.put, List.setIfInBounds_toArray, List.set_cons_zero, List.set_cons_succ]
              refine wpAnyH_take (i := 3) (oi := ⟨some 30, _, _, _, _, _⟩) (v := ?_) rfl (by kernel_rfl) (by kernel_rfl) (by kernel_rfl) (fun _ _ _ h => h) (Or.inl ⟨by rfl, ?_⟩) (by assumption) ?_
              rotate_left
              · (intro w hSw; (try dsimp only at hSw); go_simp; try with_reducible rfl)
              try simp only [Act.put, List.setIfInBounds_toArray, List.set_cons_zero, List.set_cons_succ]
              refine wpAnyH_take (i := 4) (oi := ⟨some 31, _, _, _, _, _⟩) (v := ?_) rfl (by kernel_rfl) (by kernel_rfl) (by kernel_rfl) (fun _ _ _ h => h) (Or.inl ⟨by rfl, ?_⟩) (by assumption) ?_
              rotate_left
              · (intro w hSw; (try dsimp only at hSw); go_simp; try with_reducible rfl)
              try simp only [Act.put, List.setIfInBounds_toArray, List.set_cons_zero, List.set_cons_succ]
              refine wpAnyH_take (i := 5) (oi := ⟨some 32, _, _, _, _, _⟩) (v := undef) rfl (by kernel_rfl) (by kernel_rfl) (by kernel_rfl) (fun _ _ _ h => h) (Or.inr ⟨by rfl, rfl⟩) (by assumption) ?_
              try simp only [Act.put, List.setIfInBounds_toArray, List.set_cons_zero, List.set_cons_succ]
              refine wpAnyH_take (i := 6) (oi := ⟨some 33, _, _, _, _, _⟩) (v := undef) rfl (by kernel_rfl) (by kernel_rfl) (by kernel_rfl) (fun _ _ _ h => h) (Or.inr ⟨by rfl, rfl⟩) (by assumption) ?_
              try simp only [Act.put, List.setIfInBounds_toArray, List.set_cons_zero, List.set_cons_succ]
              refine wpAnyH_take (i := 7) (oi := ⟨some 34, _, _, _, _, _⟩) (v := undef) rfl (by kernel_rfl) (by kernel_rfl) (by kernel_rfl) (fun _ _ _ h => h) (Or.inr ⟨by rfl, rfl⟩) (by assumption) ?_
              try simp only [Act.put, List.setIfInBounds_toArray, List.set_cons_zero, List.set_cons_succ]
              refine wpAnyH_take (i := 8) (oi := ⟨some 35, _, _, _, _, _⟩) (v := undef) rfl (by kernel_rfl) (by kernel_rfl) (by kernel_rfl) (fun _ _ _ h => h) (Or.inr ⟨by rfl, rfl⟩) (by assumption) ?_
              try simp only [Act.put, List.setIfInBounds_toArray, List.set_cons_zero, List.set_cons_succ]
              refine wpAnyH_take (i := 9) (oi := ⟨some 36, _, _, _, _, _⟩) (v := undef) rfl (by kernel_rfl) (by kernel_rfl) (by kernel_rfl) (fun _ _ _ h => h) (Or.inr ⟨by rfl, rfl⟩) (by assumption) ?_
              try simp only [Act.put, List.setIfInBounds_toArray, List.set_cons_zero, List.set_cons_succ]
              refine wpAnyH_take (i := 10) (oi := ⟨some 37, _, _, _, _, _⟩) (v := undef) rfl (by kernel_rfl) (by kernel_rfl) (by kernel_rfl) (fun _ _ _ h => h) (Or.inr ⟨by rfl, rfl⟩) (by assumption) ?_
              try simp only [Act.put, List.setIfInBounds_toArray, List.set_cons_zero, List.set_cons_succ]
              refine wpAnyH_take (i := 11) (oi := ⟨some 38, _, _, _, _, _⟩) (v := undef) rfl (by kernel_rfl) (by kernel_rfl) (by kernel_rfl) (fun _ _ _ h => h) (Or.inr ⟨by rfl, rfl⟩) (by assumption) ?_
              try simp only [Act.put, List.setIfInBounds_toArray, List.set_cons_zero, List.set_cons_succ]
              refine wpAnyH_take (i := 12) (oi := ⟨some 39, _, _, _, _, _⟩) (v := undef) rfl (by kernel_rfl) (by kernel_rfl) (by kernel_rfl) (fun _ _ _ h => h) (Or.inr ⟨by rfl, rfl⟩) (by assumption) ?_
              try simp only [Act.put, List.setIfInBounds_toArray, List.set_cons_zero, List.set_cons_succ]
              refine wpAnyH_take (i := 13) (oi := ⟨some 40, _, _, _, _, _⟩) (v := undef) rfl (by kernel_rfl) (by kernel_rfl) (by kernel_rfl) (fun _ _ _ h => h) (Or.inr ⟨by rfl, rfl⟩) (by assumption) ?_
              try simp only [Act.put, List.setIfInBounds_toArray, List.set_cons_zero, List.set_cons_succ]
              refine wpAnyH_take (i := 14) (oi := ⟨some 41, _, _, _, _, _⟩) (v := undef) rfl (by kernel_rfl) (by kernel_rfl) (by kernel_rfl) (fun _ _ _ h => h) (Or.inr ⟨by rfl, rfl⟩) (by assumption) ?_
              try simp only [Act.put, List.setIfInBounds_toArray, List.set_cons_zero, List.set_cons_succ]
              refine wpAnyH_take (i := 15) (oi := ⟨some 42, _, _, _, _, _⟩) (v := undef) rfl (by kernel_rfl) (by kernel_rfl) (by kernel_rfl) (fun _ _ _ h => h) (Or.inr ⟨by rfl, rfl⟩) (by assumption) ?_
              try simp only [Act.put, List.setIfInBounds_toArray, List.set_cons_zero, List.set_cons_succ]
              refine wpAnyH_take (i := 16) (oi := ⟨some 43, _, _, _, _, _⟩) (v := undef) rfl (by kernel_rfl) (by kernel_rfl) (by kernel_rfl) (fun _ _ _ h => h) (Or.inr ⟨by rfl, rfl⟩) (by assumption) ?_
              try simp only [Act.put, List.setIfInBounds_toArray, List.set_cons_zero, List.set_cons_succ]
              refine wpAnyH_take (i := 17) (oi := ⟨some 44, _, _, _, _, _⟩) (v := undef) rfl (by kernel_rfl) (by kernel_rfl) (by kernel_rfl) (fun _ _ _ h => h) (Or.inr ⟨by rfl, rfl⟩) (by assumption) ?_
              try simp only [Act.put, List.setIfInBounds_toArray, List.set_cons_zero, List.set_cons_succ]
              refine wpAnyH_take (i := 18) (oi := ⟨some 45, _, _, _, _, _⟩) (v := undef) rfl (by kernel_rfl) (by kernel_rfl) (by kernel_rfl) (fun _ _ _ h => h) (Or.inr ⟨by rfl, rfl⟩) (by assumption) ?_
              try simp only [Act.put, List.setIfInBounds_toArray, List.set_cons_zero, List.set_cons_succ]
              refine wpAnyH_take (i := 19) (oi := ⟨some 46, _, _, _, _, _⟩) (v := undef) rfl (by kernel_rfl) (by kernel_rfl) (by kernel_rfl) (fun _ _ _ h => h) (Or.inr ⟨by rfl, rfl⟩) (by assumption) ?_
              try simp only [Act.put, List.setIfInBounds_toArray, List.set_cons_zero, List.set_cons_succ]
              refine wpAnyH_take (i := 20) (oi := ⟨some 47, _, _, _, _, _⟩) (v := undef) rfl (by kernel_rfl) (by kernel_rfl) (by kernel_rfl) (fun _ _ _ h => h) (Or.inr ⟨by rfl, rfl⟩) (by assumption) ?_
              try simp only [Act.put, List.setIfInBounds_toArray, List.set_cons_zero, List.set_cons_succ]
              refine wpAnyH_take (i := 21) (oi := ⟨some 48, _, _, _, _, _⟩) (v := undef) rfl (by kernel_rfl) (by kernel_rfl) (by kernel_rfl) (fun _ _ _ h => h) (Or.inr ⟨by rfl, rfl⟩) (by assumption) ?_
              try simp only [Act.put, List.setIfInBounds_toArray, List.set_cons_zero, List.set_cons_succ]
              refine wpAnyH_take (i := 22) (oi := ⟨some 49, _, _, _, _, _⟩) (v := ?_) rfl (by kernel_rfl) (by kernel_rfl) (by kernel_rfl) (fun _ _ _ h => h) (Or.inl ⟨by rfl, ?_⟩) (by assumption) ?_
              rotate_left
              · (intro w hSw; (try dsimp only at hSw); go_simp; try with_reducible rfl)
              try simp only [Act.put, List.setIfInBounds_toArray, List.set_cons_zero, List.set_cons_succ]
              refine wpAnyH_done (by kernel_rfl) ?_ _
              refine NoPanic.normal ?_
              go_wp2_with fail
              refine wp_region_noPanic ?_
              refine wp_region_held_drew (S := fun _ => True) (by kernel_rfl) ?_ (fun hHeld => ?_)
              · trivial
              refine wpAnyH_take (i := 0) (oi := ⟨some 52, _, _, _, _, _⟩) (v := ?_) rfl (by kernel_rfl) (by kernel_rfl) (by kernel_rfl) (fun _ _ _ h => h) (Or.inl ⟨by rfl, ?_⟩) (by assumption) ?_
              rotate_left
              · (intro w hSw; (try dsimp only at hSw); go_simp; try with_reducible rfl)
              try simp only [Act.put, List.setIfInBounds_toArray, List.set_cons_zero, List.set_cons_succ]
              refine wpAnyH_take (i := 1) (oi := ⟨some 53, _, _, _, _, _⟩) (v := ?_) rfl (by kernel_rfl) (by kernel_rfl) (by kernel_rfl) (fun _ _ _ h => h) (Or.inl ⟨by rfl, ?_⟩) (by assumption) ?_
              rotate_left
              · (intro w hSw; (try dsimp only at hSw); go_simp; try with_reducible rfl)
              try simp only [Act.put, List.setIfInBounds_toArray, List.set_cons_zero, List.set_cons_succ]
              refine wpAnyH_take (i := 2) (oi := ⟨some 54, _, _, _, _, _⟩) (v := ?_) rfl (by kernel_rfl) (by kernel_rfl) (by kernel_rfl) (fun _ _ _ h => h) (Or.inl ⟨by rfl, ?_⟩) (by assumption) ?_
              rotate_left
              · (intro w hSw; (try dsimp only at hSw); go_simp; try with_reducible rfl)
              try simp only [Act.put, List.setIfInBounds_toArray, List.set_cons_zero, List.set_cons_succ]
              refine wpAnyH_take (i := 3) (oi := ⟨some 55, _, _, _, _, _⟩) (v := ?_) rfl (by kernel_rfl) (by kernel_rfl) (by kernel_rfl) (fun _ _ _ h => h) (Or.inl ⟨by rfl, ?_⟩) (by assumption) ?_
              rotate_left
              · (intro w hSw; (try dsimp only at hSw); go_simp; try with_reducible rfl)
              try simp only [Act.put, List.setIfInBounds_toArray, List.set_cons_zero, List.set_cons_succ]
              refine wpAnyH_take (i := 4) (oi := ⟨some 56, _, _, _, _, _⟩) (v := ?_) rfl (by kernel_rfl) (by kernel_rfl) (by kernel_rfl) (fun _ _ _ h => h) (Or.inl ⟨by rfl, ?_⟩) (by assumption) ?_
              rotate_left
              · (intro w hSw; (try dsimp only at hSw); go_simp; try with_reducible rfl)
              try simp only [Act.put, List.setIfInBounds_toArray, List.set_cons_zero, List.set_cons_succ]
              refine wpAnyH_take (i := 5) (oi := ⟨some 57, _, _, _, _, _⟩) (v := undef) rfl (by kernel_rfl) (by kernel_rfl) (by kernel_rfl) (fun _ _ _ h => h) (Or.inr ⟨by rfl, rfl⟩) (by assumption) ?_
              try simp only [Act.put, List.setIfInBounds_toArray, List.set_cons_zero, List.set_cons_succ]
              refine wpAnyH_take (i := 6) (oi := ⟨some 58, _, _, _, _, _⟩) (v := undef) rfl (by kernel_rfl) (by kernel_rfl) (by kernel_rfl) (fun _ _ _ h => h) (Or.inr ⟨by rfl, rfl⟩) (by assumption) ?_
              try simp only [Act.put, List.setIfInBounds_toArray, List.set_cons_zero, List.set_cons_succ]
              refine wpAnyH_take (i := 7) (oi := ⟨some 59, _, _, _, _, _⟩) (v := undef) rfl (by kernel_rfl) (by kernel_rfl) (by kernel_rfl) (fun _ _ _ h => h) (Or.inr ⟨by rfl, rfl⟩) (by assumption) ?_
              try simp only [Act.put, List.setIfInBounds_toArray, List.set_cons_zero, List.set_cons_succ]
              refine wpAnyH_take (i := 8) (oi := ⟨some 60, _, _, _, _, _⟩) (v := undef) rfl (by kernel_rfl) (by kernel_rfl) (by kernel_rfl) (fun _ _ _ h => h) (Or.inr ⟨by rfl, rfl⟩) (by assumption) ?_
              try simp only [Act.put, List.setIfInBounds_toArray, List.set_cons_zero, List.set_cons_succ]
              refine wpAnyH_take (i := 9) (oi := ⟨some 61, _, _, _, _, _⟩) (v := undef) rfl (by kernel_rfl) (by kernel_rfl) (by kernel_rfl) (fun _ _ _ h => h) (Or.inr ⟨by rfl, rfl⟩) (by assumption) ?_
              try simp only [Act.put, List.setIfInBounds_toArray, List.set_cons_zero, List.set_cons_succ]
              refine wpAnyH_take (i := 10) (oi := ⟨some 62, _, _, _, _, _⟩) (v := undef) rfl (by kernel_rfl) (by kernel_rfl) (by kernel_rfl) (fun _ _ _ h => h) (Or.inr ⟨by rfl, rfl⟩) (by assumption) ?_
              try simp only [Act.put, List.setIfInBounds_toArray, List.set_cons_zero, List.set_cons_succ]
              refine wpAnyH_take (i := 11) (oi := ⟨some 63, _, _, _, _, _⟩) (v := undef) rfl (by kernel_rfl) (by kernel_rfl) (by kernel_rfl) (fun _ _ _ h => h) (Or.inr ⟨by rfl, rfl⟩) (by assumption) ?_
              try simp only [Act.put, List.setIfInBounds_toArray, List.set_cons_zero, List.set_cons_succ]
              refine wpAnyH_take (i := 12) (oi := ⟨some 64, _, _, _, _, _⟩) (v := undef) rfl (by kernel_rfl) (by kernel_rfl) (by kernel_rfl) (fun _ _ _ h => h) (Or.inr ⟨by rfl, rfl⟩) (by assumption) ?_
              try simp only [Act.put, List.setIfInBounds_toArray, List.set_cons_zero, List.set_cons_succ]
              refine wpAnyH_take (i := 13) (oi := ⟨some 65, _, _, _, _, _⟩) (v := undef) rfl (by kernel_rfl) (by kernel_rfl) (by kernel_rfl) (fun _ _ _ h => h) (Or.inr ⟨by rfl, rfl⟩) (by assumption) ?_
              try simp only [Act.put, List.setIfInBounds_toArray, List.set_cons_zero, List.set_cons_succ]
              refine wpAnyH_take (i := 14) (oi := ⟨some 66, _, _, _, _, _⟩) (v := ?_) rfl (by kernel_rfl) (by kernel_rfl) (by kernel_rfl) (fun _ _ _ h => h) (Or.inl ⟨by rfl, ?_⟩) (by assumption) ?_
              rotate_left
              · (intro w hSw; (try dsimp only at hSw); go_simp; try with_reducible rfl)
              try simp only [Act.put, List.setIfInBounds_toArray, List.set_cons_zero, List.set_cons_succ]
              refine wpAnyH_take (i := 15) (oi := ⟨some 67, _, _, _, _, _⟩) (v := ?_) rfl (by kernel_rfl) (by kernel_rfl) (by kernel_rfl) (fun _ _ _ h => h) (Or.inl ⟨by rfl, ?_⟩) (by assumption) ?_
              rotate_left
              · (intro w hSw; (try dsimp only at hSw); go_simp; try with_reducible rfl)
              try simp only [Act.put, List.setIfInBounds_toArray, List.set_cons_zero, List.set_cons_succ]
              refine wpAnyH_take (i := 16) (oi := ⟨some 68, _, _, _, _, _⟩) (v := undef) rfl (by kernel_rfl) (by kernel_rfl) (by kernel_rfl) (fun _ _ _ h => h) (Or.inr ⟨by rfl, rfl⟩) (by assumption) ?_
              try simp only [Act.put, List.setIfInBounds_toArray, List.set_cons_zero, List.set_cons_succ]
              refine wpAnyH_take (i := 17) (oi := ⟨some 69, _, _, _, _, _⟩) (v := undef) rfl (by kernel_rfl) (by kernel_rfl) (by kernel_rfl) (fun _ _ _ h => h) (Or.inr ⟨by rfl, rfl⟩) (by assumption) ?_
              try simp only [Act.put, List.setIfInBounds_toArray, List.set_cons_zero, List.set_cons_succ]
              refine wpAnyH_take (i := 18) (oi := ⟨some 70, _, _, _, _, _⟩) (v := undef) rfl (by kernel_rfl) (by kernel_rfl) (by kernel_rfl) (fun _ _ _ h => h) (Or.inr ⟨by rfl, rfl⟩) (by assumption) ?_
              try simp only [Act.put, List.setIfInBounds_toArray, List.set_cons_zero, List.set_cons_succ]
              refine wpAnyH_take (i := 19) (oi := ⟨some 71, _, _, _, _, _⟩) (v := undef) rfl (by kernel_rfl) (by kernel_rfl) (by kernel_rfl) (fun _ _ _ h => h) (Or.inr ⟨by rfl, rfl⟩) (by assumption) ?_
              try simp only [Act.put, List.setIfInBounds_toArray, List.set_cons_zero, List.set_cons_succ]
              refine wpAnyH_take (i := 20) (oi := ⟨some 72, _, _, _, _, _⟩) (v := undef) rfl (by kernel_rfl) (by kernel_rfl) (by kernel_rfl) (fun _ _ _ h => h) (Or.inr ⟨by rfl, rfl⟩) (by assumption) ?_
              try simp only [Act.put, List.setIfInBounds_toArray, List.set_cons_zero, List.set_cons_succ]
              refine wpAnyH_take (i := 21) (oi := ⟨some 73, _, _, _, _, _⟩) (v := undef) rfl (by kernel_rfl) (by kernel_rfl) (by kernel_rfl) (fun _ _ _ h => h) (Or.inr ⟨by rfl, rfl⟩) (by assumption) ?_
              try simp only [Act.put, List.setIfInBounds_toArray, List.set_cons_zero, List.set_cons_succ]
              refine wpAnyH_take (i := 22) (oi := ⟨some 74, _, _, _, _, _⟩) (v := undef) rfl (by kernel_rfl) (by kernel_rfl) (by kernel_rfl) (fun _ _ _ h => h) (Or.inr ⟨by rfl, rfl⟩) (by assumption) ?_
              try simp only [Act.put, List.setIfInBounds_toArray, List.set_cons_zero, List.set_cons_succ]
              refine wpAnyH_take (i := 23) (oi := ⟨some 75, _, _, _, _, _⟩) (v := undef) rfl (by kernel_rfl) (by kernel_rfl) (by kernel_rfl) (fun _ _ _ h => h) (Or.inr ⟨by rfl, rfl⟩) (by assumption) ?_
              try simp only [Act.put, List.setIfInBounds_toArray, List.set_cons_zero, List.set_cons_succ]
              refine wpAnyH_take (i := 24) (oi := ⟨some 76, _, _, _, _, _⟩) (v := undef) rfl (by kernel_rfl) (by kernel_rfl) (by kernel_rfl) (fun _ _ _ h => h) (Or.inr ⟨by rfl, rfl⟩) (by assumption) ?_
              try simp only [Act.put, List.setIfInBounds_toArray, List.set_cons_zero, List.set_cons_succ]
              refine wpAnyH_take (i := 25) (oi := ⟨some 77, _, _, _, _, _⟩) (v := ?_) rfl (by kernel_rfl) (by kernel_rfl) (by kernel_rfl) (fun _ _ _ h => h) (Or.inl ⟨by rfl, ?_⟩) (by assumption) ?_
              rotate_left
              · (intro w hSw; (try dsimp only at hSw); go_simp; try with_reducible rfl)
              try simp only [Act.put, List.setIfInBounds_toArray, List.set_cons_zero, List.set_cons_succ]
              refine wpAnyH_done (by kernel_rfl) ?_ _
              refine NoPanic.normal ?_
              have hWB := hC.drew
              generalize wr.drew.drew = wi at hWB ⊢
              clear hC
              go_wp2_with fail
              have HWI : Hid (Below W.heap.size W wi) := Lib.hid (below_step ST.out.bl hWB)
              go_cut [6] from 78 to 93 (fun v wx => ∃ a3 q3, v = .slice a3 (L.length + 1) q3 ∧ Hid (wx.ownsRow wi.heap.size 9 1 (.slice a3 (L.length + 1) q3) (L.length + 1) (([] ++ ((L.map Prod.fst).map keyV).take L.length ++ [Value.string ⟨t.toArray⟩]) ++ ((L.map Prod.fst).map keyV).drop L.length)) ∧ Hid (Below wi.heap.size wi wx))
              case first =>
                have hC : Below wi.heap.size wi wi.drew := (Below.refl _ _).drew
                refine wp_region_noPanic ?_
                refine wp_region_held_drew (S := (fun w' => w'.cell? ⟨b1, f1 + k, none⟩ = some (.string ⟨t.toArray⟩) ∧ w'.cell? ⟨b2, f2 + k, none⟩ = some (.int .i64 i))) (by kernel_rfl) ?_ (fun hHeld => ?_)
                · exact HTE.out _ (hWB.trans (hC.mono hWB.size))
                generalize wi.drew = Wn at hC hHeld ⊢
                refine wpAnyH_take (i := 1) (oi := ⟨some 79, _, _, _, _, _⟩) (v := ?_) rfl (by kernel_rfl) (by kernel_rfl) (by kernel_rfl) (fun _ _ _ h => h) (Or.inl ⟨by rfl, ?_⟩) (by assumption) ?_
                rotate_left
                · (intro w hSw; (try dsimp only at hSw); go_simp; try with_reducible rfl)
                try simp only [Act.put, List.setIfInBounds_toArray, List.set_cons_zero, List.set_cons_succ]
                refine wpAnyH_take (i := 2) (oi := ⟨some 80, _, _, _, _, _⟩) (v := ?_) rfl (by kernel_rfl) (by kernel_rfl) (by kernel_rfl) (fun _ _ _ h => h) (Or.inl ⟨by rfl, ?_⟩) (by assumption) ?_
                rotate_left
                · (intro w hSw; (try dsimp only at hSw); go_simp; try with_reducible rfl)
                try simp only [Act.put, List.setIfInBounds_toArray, List.set_cons_zero, List.set_cons_succ]
                refine wpAnyH_take (i := 3) (oi := ⟨some 81, _, _, _, _, _⟩) (v := ?_) rfl (by kernel_rfl) (by kernel_rfl) (by kernel_rfl) (fun _ _ _ h => h) (Or.inl ⟨by rfl, ?_⟩) (by assumption) ?_
                rotate_left
                · (intro w hSw; (try dsimp only at hSw); go_simp; try with_reducible rfl)
                try simp only [Act.put, List.setIfInBounds_toArray, List.set_cons_zero, List.set_cons_succ]
                refine wpAnyH_take (i := 5) (oi := ⟨some 83, _, _, _, _, _⟩) (v := ?_) rfl (by kernel_rfl) (by kernel_rfl) (by kernel_rfl) (fun _ _ _ h => h) (Or.inl ⟨by rfl, ?_⟩) (by assumption) ?_
                rotate_left
                · (intro w hSw; (try dsimp only at hSw); go_simp; try with_reducible rfl)
                try simp only [Act.put, List.setIfInBounds_toArray, List.set_cons_zero, List.set_cons_succ]
                refine wpAnyH_take (i := 6) (oi := ⟨some 84, _, _, _, _, _⟩) (v := ?_) rfl (by kernel_rfl) (by kernel_rfl) (by kernel_rfl) (fun _ _ _ h => h) (Or.inl ⟨by rfl, ?_⟩) (by assumption) ?_
                rotate_left
                · (intro w hSw; (try dsimp only at hSw); go_simp; try with_reducible rfl)
                try simp only [Act.put, List.setIfInBounds_toArray, List.set_cons_zero, List.set_cons_succ]
                refine wpAnyH_take (i := 7) (oi := ⟨some 85, _, _, _, _, _⟩) (v := ?_) rfl (by kernel_rfl) (by kernel_rfl) (by kernel_rfl) (fun _ _ _ h => h) (Or.inl ⟨by rfl, ?_⟩) (by assumption) ?_
                rotate_left
                · (intro w hSw; (try dsimp only at hSw); go_simp; try with_reducible rfl)
                try simp only [Act.put, List.setIfInBounds_toArray, List.set_cons_zero, List.set_cons_succ]
                refine wpAnyH_take (i := 8) (oi := ⟨some 86, _, _, _, _, _⟩) (v := ?_) rfl (by kernel_rfl) (by kernel_rfl) (by kernel_rfl) (fun _ _ _ h => h) (Or.inl ⟨by rfl, ?_⟩) (by assumption) ?_
                rotate_left
                · (intro w hSw; (try dsimp only at hSw); go_simp; try with_reducible rfl)
                try simp only [Act.put, List.setIfInBounds_toArray, List.set_cons_zero, List.set_cons_succ]
                refine wpAnyH_take (i := 11) (oi := ⟨some 89, _, _, _, _, _⟩) (v := ?_) rfl (by kernel_rfl) (by kernel_rfl) (by kernel_rfl) (fun _ _ _ h => h) (Or.inl ⟨by rfl, ?_⟩) (by assumption) ?_
                rotate_left
                · (intro w hSw; (try dsimp only at hSw); go_simp; try with_reducible rfl)
                try simp only [Act.put, List.setIfInBounds_toArray, List.set_cons_zero, List.set_cons_succ]
                refine wpAnyH_take (i := 12) (oi := ⟨some 90, _, _, _, _, _⟩) (v := ?_) rfl (by kernel_rfl) (by kernel_rfl) (by kernel_rfl) (fun _ _ _ h => h) (Or.inl ⟨by rfl, ?_⟩) (by assumption) ?_
                rotate_left
                · (intro w hSw; (try dsimp only at hSw); go_simp; try with_reducible rfl)
                try simp only [Act.put, List.setIfInBounds_toArray, List.set_cons_zero, List.set_cons_succ]
                refine wpAnyH_take (i := 13) (oi := ⟨some 91, _, _, _, _, _⟩) (v := ?_) rfl (by kernel_rfl) (by kernel_rfl) (by kernel_rfl) (fun _ _ _ h => h) (Or.inl ⟨by rfl, ?_⟩) (by assumption) ?_
                rotate_left
                · (intro w hSw; (try dsimp only at hSw); go_simp; try with_reducible rfl)
                try simp only [Act.put, List.setIfInBounds_toArray, List.set_cons_zero, List.set_cons_succ]
                refine wpAnyH_ready (rs := [0, 9]) (by kernel_rfl) (by simp) ?_
                refine AllReadyH.cons (o := ⟨some 78, _, _, _, _, _⟩) rfl (fun K hK => ?_) (AllReadyH.cons (o := ⟨some 87, _, _, _, _, _⟩) rfl (fun K hK => ?_) AllReadyH.nil)
                · go_simp
                  first | (have hri := ri_row ha hC.size; clear ha) | have h0 := own_start Wn wi.heap.size 9 hC.size
                  replace hC := below_step hC (new_below Wn (.cells #[] 9))
                  generalize World.alloc _ _ = Wn at *
                  refine hK.out _ _ ?_ (fun hHeldX => ?_)
                  · exact HTE.out _ (hWB.trans (hC.mono hWB.size))
                  clear hK K hHeld
                  rename _ => hHeld
                  try simp only [Act.put, List.setIfInBounds_toArray, List.set_cons_zero, List.set_cons_succ]
                  refine wpAnyH_ready (rs := [4, 9]) (by kernel_rfl) (by simp) ?_
                  refine AllReadyH.cons (o := ⟨some 82, _, _, _, _, _⟩) rfl (fun K hK => ?_) (AllReadyH.cons (o := ⟨some 87, _, _, _, _, _⟩) rfl (fun K hK => ?_) AllReadyH.nil)
                  · first | have hx := hri.own | have hx := h0
                    obtain ⟨v1, Wn, hr, hw, ho, hb⟩ := one_append Try.underlying22 hi0 hz0 hz1 hz2 rfl (by decide) Wn wi.heap.size 22 _ (.slice (some ⟨g, 0, none⟩) L.length c) [] (((L.map Prod.fst).map keyV).take L.length) hx (HRP.out _ (hWB.trans (hC.mono hWB.size))).1.1 (fun x hx => HKO.out x (List.mem_of_mem_take hx)) (by first | (simp; done) | (simp; omega)) hC.size
                    refine step_append_run rfl _ _ 22 rfl _ _ _ _ rfl rfl hr ?_
                    first | replace hri := hri.app ho hw hb | (clear h0; have h0 := hw)
                    replace hC := hC.trans (ho.below hC.size fun k hk e => by have := (own_lt hx e).1; omega)
                    clear hx hr hw ho hb
                    refine hK.out _ _ ?_ (fun hHeldX => ?_)
                    · exact HTE.out _ (hWB.trans (hC.mono hWB.size))
                    clear hK K hHeld
                    rename _ => hHeld
                    try simp only [Act.put, List.setIfInBounds_toArray, List.set_cons_zero, List.set_cons_succ]
                    refine wpAnyH_ready (rs := [9]) (by kernel_rfl) (by simp) ?_
                    refine AllReadyH.cons (o := ⟨some 87, _, _, _, _, _⟩) rfl (fun K hK => ?_) AllReadyH.nil
                    go_simp
                    first | (have hri := ri_blk h0 (Value.string ⟨t.toArray⟩); clear h0) | have ha : Blk 9 (Wn.alloc (.cells #[Value.string ⟨t.toArray⟩] 9)) Wn.heap.size [Value.string ⟨t.toArray⟩] := Blk.new
                    replace hC := below_step hC (new_below Wn (.cells #[Value.string ⟨t.toArray⟩] 9))
                    generalize World.alloc _ _ = Wn at *
                    refine hK.out _ _ ?_ (fun hHeldX => ?_)
                    · exact HTE.out _ (hWB.trans (hC.mono hWB.size))
                    clear hK K hHeld
                    rename _ => hHeld
                    try simp only [Act.put, List.setIfInBounds_toArray, List.set_cons_zero, List.set_cons_succ]
                    refine wpAnyH_ready (rs := [10]) (by kernel_rfl) (by simp) ?_
                    refine AllReadyH.cons (o := ⟨some 88, _, _, _, _, _⟩) rfl (fun K hK => ?_) AllReadyH.nil
                    obtain ⟨v2, Wn, hr, hw, ho, hb⟩ := one_append Try.underlying22 hi0 hz0 hz1 hz2 rfl (by decide) Wn wi.heap.size 22 _ _ ([] ++ ((L.map Prod.fst).map keyV).take L.length) [Value.string ⟨t.toArray⟩] hri.own (blk_slice hri.blk) (fun x hx => by rw [List.mem_singleton] at hx; subst hx; rfl) (by first | (simp; done) | (simp; omega)) hC.size
                    refine step_append_run rfl _ _ 22 rfl _ _ _ _ rfl rfl hr ?_
                    replace hC := hC.trans (ho.below hC.size fun k hk e => by have := (own_lt hri.own e).1; omega)
                    have h2 := hw
                    clear hr hw ho hb hri
                    refine hK.out _ _ ?_ (fun hHeldX => ?_)
                    · exact HTE.out _ (hWB.trans (hC.mono hWB.size))
                    clear hK K hHeld
                    rename _ => hHeld
                    try simp only [Act.put, List.setIfInBounds_toArray, List.set_cons_zero, List.set_cons_succ]
                    refine wpAnyH_ready (rs := [14]) (by kernel_rfl) (by simp) ?_
                    refine AllReadyH.cons (o := ⟨some 92, _, _, _, _, _⟩) rfl (fun K hK => ?_) AllReadyH.nil
                    obtain ⟨v3, Wn, hr, hw, ho, hb⟩ := one_append Try.underlying22 hi0 hz0 hz1 hz2 rfl (by decide) Wn wi.heap.size 22 _ (.slice (if c = L.length then some ⟨g, 0, none⟩ else some ⟨g, L.length, none⟩) 0 (c - L.length)) ([] ++ ((L.map Prod.fst).map keyV).take L.length ++ [Value.string ⟨t.toArray⟩]) (((L.map Prod.fst).map keyV).drop L.length) h2 (HRP.out _ (hWB.trans (hC.mono hWB.size))).1.2 (fun x hx => HKO.out x (List.mem_of_mem_drop hx)) (by first | (simp; done) | (simp; omega)) hC.size
                    refine step_append_run rfl _ _ 22 rfl _ _ _ _ rfl rfl hr ?_
                    replace hC := hC.trans (ho.below hC.size fun k hk e => by have := (own_lt h2 e).1; omega)
                    have h3 := hw
                    clear hr hw ho hb h2
                    refine hK.out _ _ ?_ (fun hHeldX => ?_)
                    · exact HTE.out _ (hWB.trans (hC.mono hWB.size))
                    clear hK K hHeld
                    rename _ => hHeld
                    try simp only [Act.put, List.setIfInBounds_toArray, List.set_cons_zero, List.set_cons_succ]
                    refine wpAnyH_take (i := 15) (oi := ⟨some 6, _, _, _, _, _⟩) (v := ?_) rfl (by kernel_rfl) (by kernel_rfl) (by kernel_rfl) (fun _ _ _ h => h) (Or.inl ⟨by rfl, ?_⟩) (by assumption) ?_
                    rotate_left
                    · (intro w hSw; (try dsimp only at hSw); go_simp; try with_reducible rfl)
                    try simp only [Act.put, List.setIfInBounds_toArray, List.set_cons_zero, List.set_cons_succ]
                    refine wpAnyH_done (by kernel_rfl) ?_ _
                    refine NoPanic.normal ?_
                    rw [show List.length (α := Value) (([] ++ ((L.map Prod.fst).map keyV).take L.length ++ [Value.string ⟨t.toArray⟩]) ++ ((L.map Prod.fst).map keyV).drop L.length) = L.length + 1 by first | (simp; done) | (simp; omega)] at h3
                    obtain ⟨a3, q3, rfl⟩ := own_form h3
                    generalize (if c = L.length then some (⟨g, 0, none⟩ : Addr) else some ⟨g, L.length, none⟩) = p2
                    go_wp2_with fail
                    go_meet
                    case rel => exact ⟨a3, q3, rfl, Lib.hid h3, Lib.hid hC⟩
                  · go_simp
                    first | (have hri := ri_blk h0 (Value.string ⟨t.toArray⟩); clear h0) | have ha : Blk 9 (Wn.alloc (.cells #[Value.string ⟨t.toArray⟩] 9)) Wn.heap.size [Value.string ⟨t.toArray⟩] := Blk.new
                    replace hC := below_step hC (new_below Wn (.cells #[Value.string ⟨t.toArray⟩] 9))
                    generalize World.alloc _ _ = Wn at *
                    refine hK.out _ _ ?_ (fun hHeldX => ?_)
                    · exact HTE.out _ (hWB.trans (hC.mono hWB.size))
                    clear hK K hHeld
                    rename _ => hHeld
                    try simp only [Act.put, List.setIfInBounds_toArray, List.set_cons_zero, List.set_cons_succ]
                    refine wpAnyH_ready (rs := [4]) (by kernel_rfl) (by simp) ?_
                    refine AllReadyH.cons (o := ⟨some 82, _, _, _, _, _⟩) rfl (fun K hK => ?_) AllReadyH.nil
                    first | have hx := hri.own | have hx := h0
                    obtain ⟨v1, Wn, hr, hw, ho, hb⟩ := one_append Try.underlying22 hi0 hz0 hz1 hz2 rfl (by decide) Wn wi.heap.size 22 _ (.slice (some ⟨g, 0, none⟩) L.length c) [] (((L.map Prod.fst).map keyV).take L.length) hx (HRP.out _ (hWB.trans (hC.mono hWB.size))).1.1 (fun x hx => HKO.out x (List.mem_of_mem_take hx)) (by first | (simp; done) | (simp; omega)) hC.size
                    refine step_append_run rfl _ _ 22 rfl _ _ _ _ rfl rfl hr ?_
                    first | replace hri := hri.app ho hw hb | (clear h0; have h0 := hw)
                    replace hC := hC.trans (ho.below hC.size fun k hk e => by have := (own_lt hx e).1; omega)
                    clear hx hr hw ho hb
                    refine hK.out _ _ ?_ (fun hHeldX => ?_)
                    · exact HTE.out _ (hWB.trans (hC.mono hWB.size))
                    clear hK K hHeld
                    rename _ => hHeld
                    try simp only [Act.put, List.setIfInBounds_toArray, List.set_cons_zero, List.set_cons_succ]
                    refine wpAnyH_ready (rs := [10]) (by kernel_rfl) (by simp) ?_
                    refine AllReadyH.cons (o := ⟨some 88, _, _, _, _, _⟩) rfl (fun K hK => ?_) AllReadyH.nil
                    obtain ⟨v2, Wn, hr, hw, ho, hb⟩ := one_append Try.underlying22 hi0 hz0 hz1 hz2 rfl (by decide) Wn wi.heap.size 22 _ _ ([] ++ ((L.map Prod.fst).map keyV).take L.length) [Value.string ⟨t.toArray⟩] hri.own (blk_slice hri.blk) (fun x hx => by rw [List.mem_singleton] at hx; subst hx; rfl) (by first | (simp; done) | (simp; omega)) hC.size
                    refine step_append_run rfl _ _ 22 rfl _ _ _ _ rfl rfl hr ?_
                    replace hC := hC.trans (ho.below hC.size fun k hk e => by have := (own_lt hri.own e).1; omega)
                    have h2 := hw
                    clear hr hw ho hb hri
                    refine hK.out _ _ ?_ (fun hHeldX => ?_)
                    · exact HTE.out _ (hWB.trans (hC.mono hWB.size))
                    clear hK K hHeld
                    rename _ => hHeld
                    try simp only [Act.put, List.setIfInBounds_toArray, List.set_cons_zero, List.set_cons_succ]
                    refine wpAnyH_ready (rs := [14]) (by kernel_rfl) (by simp) ?_
                    refine AllReadyH.cons (o := ⟨some 92, _, _, _, _, _⟩) rfl (fun K hK => ?_) AllReadyH.nil
                    obtain ⟨v3, Wn, hr, hw, ho, hb⟩ := one_append Try.underlying22 hi0 hz0 hz1 hz2 rfl (by decide) Wn wi.heap.size 22 _ (.slice (if c = L.length then some ⟨g, 0, none⟩ else some ⟨g, L.length, none⟩) 0 (c - L.length)) ([] ++ ((L.map Prod.fst).map keyV).take L.length ++ [Value.string ⟨t.toArray⟩]) (((L.map Prod.fst).map keyV).drop L.length) h2 (HRP.out _ (hWB.trans (hC.mono hWB.size))).1.2 (fun x hx => HKO.out x (List.mem_of_mem_drop hx)) (by first | (simp; done) | (simp; omega)) hC.size
                    refine step_append_run rfl _ _ 22 rfl _ _ _ _ rfl rfl hr ?_
                    replace hC := hC.trans (ho.below hC.size fun k hk e => by have := (own_lt h2 e).1; omega)
                    have h3 := hw
                    clear hr hw ho hb h2
                    refine hK.out _ _ ?_ (fun hHeldX => ?_)
                    · exact HTE.out _ (hWB.trans (hC.mono hWB.size))
                    clear hK K hHeld
                    rename _ => hHeld
                    try simp only [Act.put, List.setIfInBounds_toArray, List.set_cons_zero, List.set_cons_succ]
                    refine wpAnyH_take (i := 15) (oi := ⟨some 6, _, _, _, _, _⟩) (v := ?_) rfl (by kernel_rfl) (by kernel_rfl) (by kernel_rfl) (fun _ _ _ h => h) (Or.inl ⟨by rfl, ?_⟩) (by assumption) ?_
                    rotate_left
                    · (intro w hSw; (try dsimp only at hSw); go_simp; try with_reducible rfl)
                    try simp only [Act.put, List.setIfInBounds_toArray, List.set_cons_zero, List.set_cons_succ]
                    refine wpAnyH_done (by kernel_rfl) ?_ _
                    refine NoPanic.normal ?_
                    rw [show List.length (α := Value) (([] ++ ((L.map Prod.fst).map keyV).take L.length ++ [Value.string ⟨t.toArray⟩]) ++ ((L.map Prod.fst).map keyV).drop L.length) = L.length + 1 by first | (simp; done) | (simp; omega)] at h3
                    obtain ⟨a3, q3, rfl⟩ := own_form h3
                    generalize (if c = L.length then some (⟨g, 0, none⟩ : Addr) else some ⟨g, L.length, none⟩) = p2
                    go_wp2_with fail
                    go_meet
                    case rel => exact ⟨a3, q3, rfl, Lib.hid h3, Lib.hid hC⟩
                · go_simp
                  first | (have hri := ri_blk h0 (Value.string ⟨t.toArray⟩); clear h0) | have ha : Blk 9 (Wn.alloc (.cells #[Value.string ⟨t.toArray⟩] 9)) Wn.heap.size [Value.string ⟨t.toArray⟩] := Blk.new
                  replace hC := below_step hC (new_below Wn (.cells #[Value.string ⟨t.toArray⟩] 9))
                  generalize World.alloc _ _ = Wn at *
                  refine hK.out _ _ ?_ (fun hHeldX => ?_)
                  · exact HTE.out _ (hWB.trans (hC.mono hWB.size))
                  clear hK K hHeld
                  rename _ => hHeld
                  try simp only [Act.put, List.setIfInBounds_toArray, List.set_cons_zero, List.set_cons_succ]
                  refine wpAnyH_ready (rs := [0]) (by kernel_rfl) (by simp) ?_
                  refine AllReadyH.cons (o := ⟨some 78, _, _, _, _, _⟩) rfl (fun K hK => ?_) AllReadyH.nil
                  go_simp
                  first | (have hri := ri_row ha hC.size; clear ha) | have h0 := own_start Wn wi.heap.size 9 hC.size
                  replace hC := below_step hC (new_below Wn (.cells #[] 9))
                  generalize World.alloc _ _ = Wn at *
                  refine hK.out _ _ ?_ (fun hHeldX => ?_)
                  · exact HTE.out _ (hWB.trans (hC.mono hWB.size))
                  clear hK K hHeld
                  rename _ => hHeld
                  try simp only [Act.put, List.setIfInBounds_toArray, List.set_cons_zero, List.set_cons_succ]
                  refine wpAnyH_ready (rs := [4]) (by kernel_rfl) (by simp) ?_
                  refine AllReadyH.cons (o := ⟨some 82, _, _, _, _, _⟩) rfl (fun K hK => ?_) AllReadyH.nil
                  first | have hx := hri.own | have hx := h0
                  obtain ⟨v1, Wn, hr, hw, ho, hb⟩ := one_append Try.underlying22 hi0 hz0 hz1 hz2 rfl (by decide) Wn wi.heap.size 22 _ (.slice (some ⟨g, 0, none⟩) L.length c) [] (((L.map Prod.fst).map keyV).take L.length) hx (HRP.out _ (hWB.trans (hC.mono hWB.size))).1.1 (fun x hx => HKO.out x (List.mem_of_mem_take hx)) (by first | (simp; done) | (simp; omega)) hC.size
                  refine step_append_run rfl _ _ 22 rfl _ _ _ _ rfl rfl hr ?_
                  first | replace hri := hri.app ho hw hb | (clear h0; have h0 := hw)
                  replace hC := hC.trans (ho.below hC.size fun k hk e => by have := (own_lt hx e).1; omega)
                  clear hx hr hw ho hb
                  refine hK.out _ _ ?_ (fun hHeldX => ?_)
                  · exact HTE.out _ (hWB.trans (hC.mono hWB.size))
                  clear hK K hHeld
                  rename _ => hHeld
                  try simp only [Act.put, List.setIfInBounds_toArray, List.set_cons_zero, List.set_cons_succ]
                  refine wpAnyH_ready (rs := [10]) (by kernel_rfl) (by simp) ?_
                  refine AllReadyH.cons (o := ⟨some 88, _, _, _, _, _⟩) rfl (fun K hK => ?_) AllReadyH.nil
                  obtain ⟨v2, Wn, hr, hw, ho, hb⟩ := one_append Try.underlying22 hi0 hz0 hz1 hz2 rfl (by decide) Wn wi.heap.size 22 _ _ ([] ++ ((L.map Prod.fst).map keyV).take L.length) [Value.string ⟨t.toArray⟩] hri.own (blk_slice hri.blk) (fun x hx => by rw [List.mem_singleton] at hx; subst hx; rfl) (by first | (simp; done) | (simp; omega)) hC.size
                  refine step_append_run rfl _ _ 22 rfl _ _ _ _ rfl rfl hr ?_
                  replace hC := hC.trans (ho.below hC.size fun k hk e => by have := (own_lt hri.own e).1; omega)
                  have h2 := hw
                  clear hr hw ho hb hri
                  refine hK.out _ _ ?_ (fun hHeldX => ?_)
                  · exact HTE.out _ (hWB.trans (hC.mono hWB.size))
                  clear hK K hHeld
                  rename _ => hHeld
                  try simp only [Act.put, List.setIfInBounds_toArray, List.set_cons_zero, List.set_cons_succ]
                  refine wpAnyH_ready (rs := [14]) (by kernel_rfl) (by simp) ?_
                  refine AllReadyH.cons (o := ⟨some 92, _, _, _, _, _⟩) rfl (fun K hK => ?_) AllReadyH.nil
                  obtain ⟨v3, Wn, hr, hw, ho, hb⟩ := one_append Try.underlying22 hi0 hz0 hz1 hz2 rfl (by decide) Wn wi.heap.size 22 _ (.slice (if c = L.length then some ⟨g, 0, none⟩ else some ⟨g, L.length, none⟩) 0 (c - L.length)) ([] ++ ((L.map Prod.fst).map keyV).take L.length ++ [Value.string ⟨t.toArray⟩]) (((L.map Prod.fst).map keyV).drop L.length) h2 (HRP.out _ (hWB.trans (hC.mono hWB.size))).1.2 (fun x hx => HKO.out x (List.mem_of_mem_drop hx)) (by first | (simp; done) | (simp; omega)) hC.size
                  refine step_append_run rfl _ _ 22 rfl _ _ _ _ rfl rfl hr ?_
                  replace hC := hC.trans (ho.below hC.size fun k hk e => by have := (own_lt h2 e).1; omega)
                  have h3 := hw
                  clear hr hw ho hb h2
                  refine hK.out _ _ ?_ (fun hHeldX => ?_)
                  · exact HTE.out _ (hWB.trans (hC.mono hWB.size))
                  clear hK K hHeld
                  rename _ => hHeld
                  try simp only [Act.put, List.setIfInBounds_toArray, List.set_cons_zero, List.set_cons_succ]
                  refine wpAnyH_take (i := 15) (oi := ⟨some 6, _, _, _, _, _⟩) (v := ?_) rfl (by kernel_rfl) (by kernel_rfl) (by kernel_rfl) (fun _ _ _ h => h) (Or.inl ⟨by rfl, ?_⟩) (by assumption) ?_
                  rotate_left
                  · (intro w hSw; (try dsimp only at hSw); go_simp; try with_reducible rfl)
                  try simp only [Act.put, List.setIfInBounds_toArray, List.set_cons_zero, List.set_cons_succ]
                  refine wpAnyH_done (by kernel_rfl) ?_ _
                  refine NoPanic.normal ?_
                  rw [show List.length (α := Value) (([] ++ ((L.map Prod.fst).map keyV).take L.length ++ [Value.string ⟨t.toArray⟩]) ++ ((L.map Prod.fst).map keyV).drop L.length) = L.length + 1 by first | (simp; done) | (simp; omega)] at h3
                  obtain ⟨a3, q3, rfl⟩ := own_form h3
                  generalize (if c = L.length then some (⟨g, 0, none⟩ : Addr) else some ⟨g, L.length, none⟩) = p2
                  go_wp2_with fail
                  go_meet
                  case rel => exact ⟨a3, q3, rfl, Lib.hid h3, Lib.hid hC⟩
              case rest =>
                obtain ⟨a8, q8, rfl, HO1, HC1⟩ := hcut
                replace hWB := hWB.trans (HC1.out.mono hWB.size)
                generalize wc = wj at *
                go_wp2_with fail
                have hC : Below wj.heap.size wj wj.drew := (Below.refl _ _).drew
                refine wp_region_noPanic ?_
                refine wp_region_held_drew (S := (fun w' => w'.cell? ⟨b1, f1 + k, none⟩ = some (.string ⟨t.toArray⟩) ∧ w'.cell? ⟨b2, f2 + k, none⟩ = some (.int .i64 i))) (by kernel_rfl) ?_ (fun hHeld => ?_)
                · exact HTE.out _ (hWB.trans (hC.mono hWB.size))
                generalize wj.drew = Wn at hC hHeld ⊢
                refine wpAnyH_take (i := 1) (oi := ⟨some 94, _, _, _, _, _⟩) (v := ?_) rfl (by kernel_rfl) (by kernel_rfl) (by kernel_rfl) (fun _ _ _ h => h) (Or.inl ⟨by rfl, ?_⟩) (by assumption) ?_
                rotate_left
                · (intro w hSw; (try dsimp only at hSw); go_simp; try with_reducible rfl)
                try simp only [Act.put, List.setIfInBounds_toArray, List.set_cons_zero, List.set_cons_succ]
                refine wpAnyH_take (i := 2) (oi := ⟨some 95, _, _, _, _, _⟩) (v := ?_) rfl (by kernel_rfl) (by kernel_rfl) (by kernel_rfl) (fun _ _ _ h => h) (Or.inl ⟨by rfl, ?_⟩) (by assumption) ?_
                rotate_left
                · (intro w hSw; (try dsimp only at hSw); go_simp; try with_reducible rfl)
                try simp only [Act.put, List.setIfInBounds_toArray, List.set_cons_zero, List.set_cons_succ]
                refine wpAnyH_take (i := 3) (oi := ⟨some 96, _, _, _, _, _⟩) (v := ?_) rfl (by kernel_rfl) (by kernel_rfl) (by kernel_rfl) (fun _ _ _ h => h) (Or.inl ⟨by rfl, ?_⟩) (by assumption) ?_
                rotate_left
                · (intro w hSw; (try dsimp only at hSw); go_simp; try with_reducible rfl)
                try simp only [Act.put, List.setIfInBounds_toArray, List.set_cons_zero, List.set_cons_succ]
                refine wpAnyH_take (i := 5) (oi := ⟨some 98, _, _, _, _, _⟩) (v := ?_) rfl (by kernel_rfl) (by kernel_rfl) (by kernel_rfl) (fun _ _ _ h => h) (Or.inl ⟨by rfl, ?_⟩) (by assumption) ?_
                rotate_left
                · (intro w hSw; (try dsimp only at hSw); go_simp; try with_reducible rfl)
                try simp only [Act.put, List.setIfInBounds_toArray, List.set_cons_zero, List.set_cons_succ]
                refine wpAnyH_take (i := 6) (oi := ⟨some 99, _, _, _, _, _⟩) (v := ?_) rfl (by kernel_rfl) (by kernel_rfl) (by kernel_rfl) (fun _ _ _ h => h) (Or.inl ⟨by rfl, ?_⟩) (by assumption) ?_
                rotate_left
                · (intro w hSw; (try dsimp only at hSw); go_simp; try with_reducible rfl)
                try simp only [Act.put, List.setIfInBounds_toArray, List.set_cons_zero, List.set_cons_succ]
                refine wpAnyH_take (i := 7) (oi := ⟨some 100, _, _, _, _, _⟩) (v := ?_) rfl (by kernel_rfl) (by kernel_rfl) (by kernel_rfl) (fun _ _ _ h => h) (Or.inl ⟨by rfl, ?_⟩) (by assumption) ?_
                rotate_left
                · (intro w hSw; (try dsimp only at hSw); go_simp; try with_reducible rfl)
                try simp only [Act.put, List.setIfInBounds_toArray, List.set_cons_zero, List.set_cons_succ]
                refine wpAnyH_take (i := 8) (oi := ⟨some 101, _, _, _, _, _⟩) (v := ?_) rfl (by kernel_rfl) (by kernel_rfl) (by kernel_rfl) (fun _ _ _ h => h) (Or.inl ⟨by rfl, ?_⟩) (by assumption) ?_
                rotate_left
                · (intro w hSw; (try dsimp only at hSw); go_simp; try with_reducible rfl)
                try simp only [Act.put, List.setIfInBounds_toArray, List.set_cons_zero, List.set_cons_succ]
                refine wpAnyH_take (i := 11) (oi := ⟨some 104, _, _, _, _, _⟩) (v := ?_) rfl (by kernel_rfl) (by kernel_rfl) (by kernel_rfl) (fun _ _ _ h => h) (Or.inl ⟨by rfl, ?_⟩) (by assumption) ?_
                rotate_left
                · (intro w hSw; (try dsimp only at hSw); go_simp; try with_reducible rfl)
                try simp only [Act.put, List.setIfInBounds_toArray, List.set_cons_zero, List.set_cons_succ]
                refine wpAnyH_take (i := 12) (oi := ⟨some 105, _, _, _, _, _⟩) (v := ?_) rfl (by kernel_rfl) (by kernel_rfl) (by kernel_rfl) (fun _ _ _ h => h) (Or.inl ⟨by rfl, ?_⟩) (by assumption) ?_
                rotate_left
                · (intro w hSw; (try dsimp only at hSw); go_simp; try with_reducible rfl)
                try simp only [Act.put, List.setIfInBounds_toArray, List.set_cons_zero, List.set_cons_succ]
                refine wpAnyH_take (i := 13) (oi := ⟨some 106, _, _, _, _, _⟩) (v := ?_) rfl (by kernel_rfl) (by kernel_rfl) (by kernel_rfl) (fun _ _ _ h => h) (Or.inl ⟨by rfl, ?_⟩) (by assumption) ?_
                rotate_left
                · (intro w hSw; (try dsimp only at hSw); go_simp; try with_reducible rfl)
                try simp only [Act.put, List.setIfInBounds_toArray, List.set_cons_zero, List.set_cons_succ]
                refine wpAnyH_ready (rs := [0, 9]) (by kernel_rfl) (by simp) ?_
                refine AllReadyH.cons (o := ⟨some 93, _, _, _, _, _⟩) rfl (fun K hK => ?_) (AllReadyH.cons (o := ⟨some 102, _, _, _, _, _⟩) rfl (fun K hK => ?_) AllReadyH.nil)
                · go_simp
                  first | (have hri := ri_row ha hC.size; clear ha) | have h0 := own_start Wn wj.heap.size 3 hC.size
                  replace hC := below_step hC (new_below Wn (.cells #[] 3))
                  generalize World.alloc _ _ = Wn at *
                  refine hK.out _ _ ?_ (fun hHeldX => ?_)
                  · exact HTE.out _ (hWB.trans (hC.mono hWB.size))
                  clear hK K hHeld
                  rename _ => hHeld
                  try simp only [Act.put, List.setIfInBounds_toArray, List.set_cons_zero, List.set_cons_succ]
                  refine wpAnyH_ready (rs := [4, 9]) (by kernel_rfl) (by simp) ?_
                  refine AllReadyH.cons (o := ⟨some 97, _, _, _, _, _⟩) rfl (fun K hK => ?_) (AllReadyH.cons (o := ⟨some 102, _, _, _, _, _⟩) rfl (fun K hK => ?_) AllReadyH.nil)
                  · first | have hx := hri.own | have hx := h0
                    obtain ⟨v1, Wn, hr, hw, ho, hb⟩ := one_append Try.underlying23 hj0 hy0 hy1 hy2 rfl (by decide) Wn wj.heap.size 23 _ (.slice (some ⟨g', 0, none⟩) L.length c') [] (((L.map Prod.snd).map numV).take L.length) hx (HRP.out _ (hWB.trans (hC.mono hWB.size))).2.1 (fun x hx => HNO.out x (List.mem_of_mem_take hx)) (by first | (simp; done) | (simp; omega)) hC.size
                    refine step_append_run rfl _ _ 23 rfl _ _ _ _ rfl rfl hr ?_
                    first | replace hri := hri.app ho hw hb | (clear h0; have h0 := hw)
                    replace hC := hC.trans (ho.below hC.size fun k hk e => by have := (own_lt hx e).1; omega)
                    clear hx hr hw ho hb
                    refine hK.out _ _ ?_ (fun hHeldX => ?_)
                    · exact HTE.out _ (hWB.trans (hC.mono hWB.size))
                    clear hK K hHeld
                    rename _ => hHeld
                    try simp only [Act.put, List.setIfInBounds_toArray, List.set_cons_zero, List.set_cons_succ]
                    refine wpAnyH_ready (rs := [9]) (by kernel_rfl) (by simp) ?_
                    refine AllReadyH.cons (o := ⟨some 102, _, _, _, _, _⟩) rfl (fun K hK => ?_) AllReadyH.nil
                    go_simp
                    first | (have hri := ri_blk h0 (Value.int .i64 i); clear h0) | have ha : Blk 3 (Wn.alloc (.cells #[Value.int .i64 i] 3)) Wn.heap.size [Value.int .i64 i] := Blk.new
                    replace hC := below_step hC (new_below Wn (.cells #[Value.int .i64 i] 3))
                    generalize World.alloc _ _ = Wn at *
                    refine hK.out _ _ ?_ (fun hHeldX => ?_)
                    · exact HTE.out _ (hWB.trans (hC.mono hWB.size))
                    clear hK K hHeld
                    rename _ => hHeld
                    try simp only [Act.put, List.setIfInBounds_toArray, List.set_cons_zero, List.set_cons_succ]
                    refine wpAnyH_ready (rs := [10]) (by kernel_rfl) (by simp) ?_
                    refine AllReadyH.cons (o := ⟨some 103, _, _, _, _, _⟩) rfl (fun K hK => ?_) AllReadyH.nil
                    obtain ⟨v2, Wn, hr, hw, ho, hb⟩ := one_append Try.underlying23 hj0 hy0 hy1 hy2 rfl (by decide) Wn wj.heap.size 23 _ _ ([] ++ ((L.map Prod.snd).map numV).take L.length) [Value.int .i64 i] hri.own (blk_slice hri.blk) (fun x hx => by rw [List.mem_singleton] at hx; subst hx; rfl) (by first | (simp; done) | (simp; omega)) hC.size
                    refine step_append_run rfl _ _ 23 rfl _ _ _ _ rfl rfl hr ?_
                    replace hC := hC.trans (ho.below hC.size fun k hk e => by have := (own_lt hri.own e).1; omega)
                    have h2 := hw
                    clear hr hw ho hb hri
                    refine hK.out _ _ ?_ (fun hHeldX => ?_)
                    · exact HTE.out _ (hWB.trans (hC.mono hWB.size))
                    clear hK K hHeld
                    rename _ => hHeld
                    try simp only [Act.put, List.setIfInBounds_toArray, List.set_cons_zero, List.set_cons_succ]
                    refine wpAnyH_ready (rs := [14]) (by kernel_rfl) (by simp) ?_
                    refine AllReadyH.cons (o := ⟨some 107, _, _, _, _, _⟩) rfl (fun K hK => ?_) AllReadyH.nil
                    obtain ⟨v3, Wn, hr, hw, ho, hb⟩ := one_append Try.underlying23 hj0 hy0 hy1 hy2 rfl (by decide) Wn wj.heap.size 23 _ (.slice (if c' = L.length then some ⟨g', 0, none⟩ else some ⟨g', L.length, none⟩) 0 (c' - L.length)) ([] ++ ((L.map Prod.snd).map numV).take L.length ++ [Value.int .i64 i]) (((L.map Prod.snd).map numV).drop L.length) h2 (HRP.out _ (hWB.trans (hC.mono hWB.size))).2.2 (fun x hx => HNO.out x (List.mem_of_mem_drop hx)) (by first | (simp; done) | (simp; omega)) hC.size
                    refine step_append_run rfl _ _ 23 rfl _ _ _ _ rfl rfl hr ?_
                    replace hC := hC.trans (ho.below hC.size fun k hk e => by have := (own_lt h2 e).1; omega)
                    have h3 := hw
                    clear hr hw ho hb h2
                    refine hK.out _ _ ?_ (fun hHeldX => ?_)
                    · exact HTE.out _ (hWB.trans (hC.mono hWB.size))
                    clear hK K hHeld
                    rename _ => hHeld
                    try simp only [Act.put, List.setIfInBounds_toArray, List.set_cons_zero, List.set_cons_succ]
                    refine wpAnyH_take (i := 15) (oi := ⟨some 7, _, _, _, _, _⟩) (v := ?_) rfl (by kernel_rfl) (by kernel_rfl) (by kernel_rfl) (fun _ _ _ h => h) (Or.inl ⟨by rfl, ?_⟩) (by assumption) ?_
                    rotate_left
                    · (intro w hSw; (try dsimp only at hSw); go_simp; try with_reducible rfl)
                    try simp only [Act.put, List.setIfInBounds_toArray, List.set_cons_zero, List.set_cons_succ]
                    refine wpAnyH_done (by kernel_rfl) ?_ _
                    refine NoPanic.normal ?_
                    rw [show List.length (α := Value) (([] ++ ((L.map Prod.snd).map numV).take L.length ++ [Value.int .i64 i]) ++ ((L.map Prod.snd).map numV).drop L.length) = L.length + 1 by first | (simp; done) | (simp; omega)] at h3
                    obtain ⟨a4, q4, rfl⟩ := own_form h3
                    obtain ⟨hli, hps⟩ := rps_ins (x := (t, i)) (L := L) (j := L.length) HWI.out HIZ.out HO1.out HC1.out h3 hC
                    have HPS := Lib.hid hps
                    have HLI := Lib.hid hli
                    have HNE : Hid (insZ (t, i) L = [] → a8 = none ∧ q8 = 0 ∧ a4 = none ∧ q4 = 0) := Lib.hid fun e => by rw [e] at hli; simp at hli
                    clear hps hli h3 hC
                    generalize (if c' = L.length then some (⟨g', 0, none⟩ : Addr) else some ⟨g', L.length, none⟩) = p2
                    go_wp2_with fail
                    go_roundw
                    case rel => exact ⟨k + 1, insZ (t, i) L, a8, a4, q8, q4, by omega, by rw [HLI.out], by rw [HLI.out], by go_num, Lib.hid HIN.out.symm, HNE, by rw [HLI.out]; exact HPS⟩
                    case measure => simp [intOf]; omega
                  · go_simp
                    first | (have hri := ri_blk h0 (Value.int .i64 i); clear h0) | have ha : Blk 3 (Wn.alloc (.cells #[Value.int .i64 i] 3)) Wn.heap.size [Value.int .i64 i] := Blk.new
                    replace hC := below_step hC (new_below Wn (.cells #[Value.int .i64 i] 3))
                    generalize World.alloc _ _ = Wn at *
                    refine hK.out _ _ ?_ (fun hHeldX => ?_)
                    · exact HTE.out _ (hWB.trans (hC.mono hWB.size))
                    clear hK K hHeld
                    rename _ => hHeld
                    try simp only [Act.put, List.setIfInBounds_toArray, List.set_cons_zero, List.set_cons_succ]
                    refine wpAnyH_ready (rs := [4]) (by kernel_rfl) (by simp) ?_
                    refine AllReadyH.cons (o := ⟨some 97, _, _, _, _, _⟩) rfl (fun K hK => ?_) AllReadyH.nil
                    first | have hx := hri.own | have hx := h0
                    obtain ⟨v1, Wn, hr, hw, ho, hb⟩ := one_append Try.underlying23 hj0 hy0 hy1 hy2 rfl (by decide) Wn wj.heap.size 23 _ (.slice (some ⟨g', 0, none⟩) L.length c') [] (((L.map Prod.snd).map numV).take L.length) hx (HRP.out _ (hWB.trans (hC.mono hWB.size))).2.1 (fun x hx => HNO.out x (List.mem_of_mem_take hx)) (by first | (simp; done) | (simp; omega)) hC.size
                    refine step_append_run rfl _ _ 23 rfl _ _ _ _ rfl rfl hr ?_
                    first | replace hri := hri.app ho hw hb | (clear h0; have h0 := hw)
                    replace hC := hC.trans (ho.below hC.size fun k hk e => by have := (own_lt hx e).1; omega)
                    clear hx hr hw ho hb
                    refine hK.out _ _ ?_ (fun hHeldX => ?_)
                    · exact HTE.out _ (hWB.trans (hC.mono hWB.size))
                    clear hK K hHeld
                    rename _ => hHeld
                    try simp only [Act.put, List.setIfInBounds_toArray, List.set_cons_zero, List.set_cons_succ]
                    refine wpAnyH_ready (rs := [10]) (by kernel_rfl) (by simp) ?_
                    refine AllReadyH.cons (o := ⟨some 103, _, _, _, _, _⟩) rfl (fun K hK => ?_) AllReadyH.nil
                    obtain ⟨v2, Wn, hr, hw, ho, hb⟩ := one_append Try.underlying23 hj0 hy0 hy1 hy2 rfl (by decide) Wn wj.heap.size 23 _ _ ([] ++ ((L.map Prod.snd).map numV).take L.length) [Value.int .i64 i] hri.own (blk_slice hri.blk) (fun x hx => by rw [List.mem_singleton] at hx; subst hx; rfl) (by first | (simp; done) | (simp; omega)) hC.size
                    refine step_append_run rfl _ _ 23 rfl _ _ _ _ rfl rfl hr ?_
                    replace hC := hC.trans (ho.below hC.size fun k hk e => by have := (own_lt hri.own e).1; omega)
                    have h2 := hw
                    clear hr hw ho hb hri
                    refine hK.out _ _ ?_ (fun hHeldX => ?_)
                    · exact HTE.out _ (hWB.trans (hC.mono hWB.size))
                    clear hK K hHeld
                    rename _ => hHeld
                    try simp only [Act.put, List.setIfInBounds_toArray, List.set_cons_zero, List.set_cons_succ]
                    refine wpAnyH_ready (rs := [14]) (by kernel_rfl) (by simp) ?_
                    refine AllReadyH.cons (o := ⟨some 107, _, _, _, _, _⟩) rfl (fun K hK => ?_) AllReadyH.nil
                    obtain ⟨v3, Wn, hr, hw, ho, hb⟩ := one_append Try.underlying23 hj0 hy0 hy1 hy2 rfl (by decide) Wn wj.heap.size 23 _ (.slice (if c' = L.length then some ⟨g', 0, none⟩ else some ⟨g', L.length, none⟩) 0 (c' - L.length)) ([] ++ ((L.map Prod.snd).map numV).take L.length ++ [Value.int .i64 i]) (((L.map Prod.snd).map numV).drop L.length) h2 (HRP.out _ (hWB.trans (hC.mono hWB.size))).2.2 (fun x hx => HNO.out x (List.mem_of_mem_drop hx)) (by first | (simp; done) | (simp; omega)) hC.size
                    refine step_append_run rfl _ _ 23 rfl _ _ _ _ rfl rfl hr ?_
                    replace hC := hC.trans (ho.below hC.size fun k hk e => by have := (own_lt h2 e).1; omega)
                    have h3 := hw
                    clear hr hw ho hb h2
                    refine hK.out _ _ ?_ (fun hHeldX => ?_)
                    · exact HTE.out _ (hWB.trans (hC.mono hWB.size))
                    clear hK K hHeld
                    rename _ => hHeld
                    try simp only [Act.put, List.setIfInBounds_toArray, List.set_cons_zero, List.set_cons_succ]
                    refine wpAnyH_take (i := 15) (oi := ⟨some 7, _, _, _, _, _⟩) (v := ?_) rfl (by kernel_rfl) (by kernel_rfl) (by kernel_rfl) (fun _ _ _ h => h) (Or.inl ⟨by rfl, ?_⟩) (by assumption) ?_
                    rotate_left
                    · (intro w hSw; (try dsimp only at hSw); go_simp; try with_reducible rfl)
                    try simp only [Act.put, List.setIfInBounds_toArray, List.set_cons_zero, List.set_cons_succ]
                    refine wpAnyH_done (by kernel_rfl) ?_ _
                    refine NoPanic.normal ?_
                    rw [show List.length (α := Value) (([] ++ ((L.map Prod.snd).map numV).take L.length ++ [Value.int .i64 i]) ++ ((L.map Prod.snd).map numV).drop L.length) = L.length + 1 by first | (simp; done) | (simp; omega)] at h3
                    obtain ⟨a4, q4, rfl⟩ := own_form h3
                    obtain ⟨hli, hps⟩ := rps_ins (x := (t, i)) (L := L) (j := L.length) HWI.out HIZ.out HO1.out HC1.out h3 hC
                    have HPS := Lib.hid hps
                    have HLI := Lib.hid hli
                    have HNE : Hid (insZ (t, i) L = [] → a8 = none ∧ q8 = 0 ∧ a4 = none ∧ q4 = 0) := Lib.hid fun e => by rw [e] at hli; simp at hli
                    clear hps hli h3 hC
                    generalize (if c' = L.length then some (⟨g', 0, none⟩ : Addr) else some ⟨g', L.length, none⟩) = p2
                    go_wp2_with fail
                    go_roundw
                    case rel => exact ⟨k + 1, insZ (t, i) L, a8, a4, q8, q4, by omega, by rw [HLI.out], by rw [HLI.out], by go_num, Lib.hid HIN.out.symm, HNE, by rw [HLI.out]; exact HPS⟩
                    case measure => simp [intOf]; omega
                · go_simp
                  first | (have hri := ri_blk h0 (Value.int .i64 i); clear h0) | have ha : Blk 3 (Wn.alloc (.cells #[Value.int .i64 i] 3)) Wn.heap.size [Value.int .i64 i] := Blk.new
                  replace hC := below_step hC (new_below Wn (.cells #[Value.int .i64 i] 3))
                  generalize World.alloc _ _ = Wn at *
                  refine hK.out _ _ ?_ (fun hHeldX => ?_)
                  · exact HTE.out _ (hWB.trans (hC.mono hWB.size))
                  clear hK K hHeld
                  rename _ => hHeld
                  try simp only [Act.put, List.setIfInBounds_toArray, List.set_cons_zero, List.set_cons_succ]
                  refine wpAnyH_ready (rs := [0]) (by kernel_rfl) (by simp) ?_
                  refine AllReadyH.cons (o := ⟨some 93, _, _, _, _, _⟩) rfl (fun K hK => ?_) AllReadyH.nil
                  go_simp
                  first | (have hri := ri_row ha hC.size; clear ha) | have h0 := own_start Wn wj.heap.size 3 hC.size
                  replace hC := below_step hC (new_below Wn (.cells #[] 3))
                  generalize World.alloc _ _ = Wn at *
                  refine hK.out _ _ ?_ (fun hHeldX => ?_)
                  · exact HTE.out _ (hWB.trans (hC.mono hWB.size))
                  clear hK K hHeld
                  rename _ => hHeld
                  try simp only [Act.put, List.setIfInBounds_toArray, List.set_cons_zero, List.set_cons_succ]
                  refine wpAnyH_ready (rs := [4]) (by kernel_rfl) (by simp) ?_
                  refine AllReadyH.cons (o := ⟨some 97, _, _, _, _, _⟩) rfl (fun K hK => ?_) AllReadyH.nil
                  first | have hx := hri.own | have hx := h0
                  obtain ⟨v1, Wn, hr, hw, ho, hb⟩ := one_append Try.underlying23 hj0 hy0 hy1 hy2 rfl (by decide) Wn wj.heap.size 23 _ (.slice (some ⟨g', 0, none⟩) L.length c') [] (((L.map Prod.snd).map numV).take L.length) hx (HRP.out _ (hWB.trans (hC.mono hWB.size))).2.1 (fun x hx => HNO.out x (List.mem_of_mem_take hx)) (by first | (simp; done) | (simp; omega)) hC.size
                  refine step_append_run rfl _ _ 23 rfl _ _ _ _ rfl rfl hr ?_
                  first | replace hri := hri.app ho hw hb | (clear h0; have h0 := hw)
                  replace hC := hC.trans (ho.below hC.size fun k hk e => by have := (own_lt hx e).1; omega)
                  clear hx hr hw ho hb
                  refine hK.out _ _ ?_ (fun hHeldX => ?_)
                  · exact HTE.out _ (hWB.trans (hC.mono hWB.size))
                  clear hK K hHeld
                  rename _ => hHeld
                  try simp only [Act.put, List.setIfInBounds_toArray, List.set_cons_zero, List.set_cons_succ]
                  refine wpAnyH_ready (rs := [10]) (by kernel_rfl) (by simp) ?_
                  refine AllReadyH.cons (o := ⟨some 103, _, _, _, _, _⟩) rfl (fun K hK => ?_) AllReadyH.nil
                  obtain ⟨v2, Wn, hr, hw, ho, hb⟩ := one_append Try.underlying23 hj0 hy0 hy1 hy2 rfl (by decide) Wn wj.heap.size 23 _ _ ([] ++ ((L.map Prod.snd).map numV).take L.length) [Value.int .i64 i] hri.own (blk_slice hri.blk) (fun x hx => by rw [List.mem_singleton] at hx; subst hx; rfl) (by first | (simp; done) | (simp; omega)) hC.size
                  refine step_append_run rfl _ _ 23 rfl _ _ _ _ rfl rfl hr ?_
                  replace hC := hC.trans (ho.below hC.size fun k hk e => by have := (own_lt hri.own e).1; omega)
                  have h2 := hw
                  clear hr hw ho hb hri
                  refine hK.out _ _ ?_ (fun hHeldX => ?_)
                  · exact HTE.out _ (hWB.trans (hC.mono hWB.size))
                  clear hK K hHeld
                  rename _ => hHeld
                  try simp only [Act.put, List.setIfInBounds_toArray, List.set_cons_zero, List.set_cons_succ]
                  refine wpAnyH_ready (rs := [14]) (by kernel_rfl) (by simp) ?_
                  refine AllReadyH.cons (o := ⟨some 107, _, _, _, _, _⟩) rfl (fun K hK => ?_) AllReadyH.nil
                  obtain ⟨v3, Wn, hr, hw, ho, hb⟩ := one_append Try.underlying23 hj0 hy0 hy1 hy2 rfl (by decide) Wn wj.heap.size 23 _ (.slice (if c' = L.length then some ⟨g', 0, none⟩ else some ⟨g', L.length, none⟩) 0 (c' - L.length)) ([] ++ ((L.map Prod.snd).map numV).take L.length ++ [Value.int .i64 i]) (((L.map Prod.snd).map numV).drop L.length) h2 (HRP.out _ (hWB.trans (hC.mono hWB.size))).2.2 (fun x hx => HNO.out x (List.mem_of_mem_drop hx)) (by first | (simp; done) | (simp; omega)) hC.size
                  refine step_append_run rfl _ _ 23 rfl _ _ _ _ rfl rfl hr ?_
                  replace hC := hC.trans (ho.below hC.size fun k hk e => by have := (own_lt h2 e).1; omega)
                  have h3 := hw
                  clear hr hw ho hb h2
                  refine hK.out _ _ ?_ (fun hHeldX => ?_)
                  · exact HTE.out _ (hWB.trans (hC.mono hWB.size))
                  clear hK K hHeld
                  rename _ => hHeld
                  try simp only [Act.put, List.setIfInBounds_toArray, List.set_cons_zero, List.set_cons_succ]
                  refine wpAnyH_take (i := 15) (oi := ⟨some 7, _, _, _, _, _⟩) (v := ?_) rfl (by kernel_rfl) (by kernel_rfl) (by kernel_rfl) (fun _ _ _ h => h) (Or.inl ⟨by rfl, ?_⟩) (by assumption) ?_
                  rotate_left
                  · (intro w hSw; (try dsimp only at hSw); go_simp; try with_reducible rfl)
                  try simp only [Act.put, List.setIfInBounds_toArray, List.set_cons_zero, List.set_cons_succ]
                  refine wpAnyH_done (by kernel_rfl) ?_ _
                  refine NoPanic.normal ?_
                  rw [show List.length (α := Value) (([] ++ ((L.map Prod.snd).map numV).take L.length ++ [Value.int .i64 i]) ++ ((L.map Prod.snd).map numV).drop L.length) = L.length + 1 by first | (simp; done) | (simp; omega)] at h3
                  obtain ⟨a4, q4, rfl⟩ := own_form h3
                  obtain ⟨hli, hps⟩ := rps_ins (x := (t, i)) (L := L) (j := L.length) HWI.out HIZ.out HO1.out HC1.out h3 hC
                  have HPS := Lib.hid hps
                  have HLI := Lib.hid hli
                  have HNE : Hid (insZ (t, i) L = [] → a8 = none ∧ q8 = 0 ∧ a4 = none ∧ q4 = 0) := Lib.hid fun e => by rw [e] at hli; simp at hli
                  clear hps hli h3 hC
                  generalize (if c' = L.length then some (⟨g', 0, none⟩ : Addr) else some ⟨g', L.length, none⟩) = p2
                  go_wp2_with fail
                  go_roundw
                  case rel => exact ⟨k + 1, insZ (t, i) L, a8, a4, q8, q4, by omega, by rw [HLI.out], by rw [HLI.out], by go_num, Lib.hid HIN.out.symm, HNE, by rw [HLI.out]; exact HPS⟩
                  case measure => simp [intOf]; omega
    · have hzl : k = (T.zip N).length := by omega
      have HEN : Hid (RPS W (refZ (T.zip N)) (.slice a L.length c) (.slice a' L.length c') wo) := Lib.hid (by
        have h1 := HL.out
        rw [hzl, List.take_length] at h1
        rw [← h1]; exact ST.out)
      by_cases hk1 : k < T.length
      · have hk2 : ¬ k < N.length := by have := HZ.out; omega
        clear hkl hzl
        go_wp2_with fail
        go_ret2
        exact ⟨_, _, rfl, HEN.out⟩
      · clear hkl hzl
        go_wp2_with fail
        go_ret2
        exact ⟨_, _, rfl, HEN.out⟩
end Go.Proofs.Ytabgedmocdjkcaa
