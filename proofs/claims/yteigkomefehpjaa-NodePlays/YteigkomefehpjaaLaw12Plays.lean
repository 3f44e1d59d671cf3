/- NodePlays' walk. Made by tools/gen_plays12.py. -/
import Derived.Test.YteigkomefehpjaaNodeQ12
import Derived.Test.YteigkomefehpjaaNodeN12
import Derived.Test.YteigkomefehpjaaArgs12
import Derived.Deep.CutBlock
import Derived.BigQuiet
namespace Go.Proofs.Yteigkomefehpjaa
open Go.RowKit

/-- Which one is picked. -/
def pk (L : List NdR) (back : Int) : Option Nat := if back < 0 ∨ (L.length : Int) ≤ back then none else some (L.length - 1 - back.toNat)
theorem pk_lt (L : List NdR) (back : Int) : ∀ j, pk L back = some j → j < L.length := fun j hj => by
  unfold pk at hj
  split at hj
  · cases hj
  · cases hj; omega
set_option maxRecDepth 100000 in
set_option maxHeartbeats 2000000 in
theorem pick12 {w1 w : World} {X A : Nat} {pv rv : Value} {L : List NdR} (h : PSt w1 w X A pv rv L) (back : Int) : Calls Try.prog 6 #[.int .i64 back, .pointer (some ⟨X, 0, none⟩)] w fun e w' =>
    e = .returned (.tuple #[pkP L (pk L back), .int .i64 (pkK (pk L back))]) ∧ Below w.heap.size w w' := by
  have hx := h.box.at (o := 0) rfl
  have hlen := h.len
  by_cases h1 : back < 0
  · have e : pk L back = none := by simp [pk, h1]
    rw [e]
    have H := Lib.hid h
    clear h e hx
    go_enter Try.func6, Try.ntmps6
    go_wp2
    refine bodyPost_ret (v := .tuple #[.pointer none, .int .i64 (-1)]) (by simp [results, Try.f6, go_sem]) rfl ⟨rfl, Below.refl _ _⟩
  · obtain ⟨a0, c0, e0⟩ := own_form h.prow
    by_cases h2 : (L.length : Int) ≤ back
    · have e : pk L back = none := by simp [pk, h2]
      rw [e]
      rw [e0] at hx
      clear h e e0
      go_enter Try.func6, Try.ntmps6
      go_wp2
      refine bodyPost_ret (v := .tuple #[.pointer none, .int .i64 (-1)]) (by simp [results, Try.f6, go_sem]) rfl ⟨rfl, Below.refl _ _⟩
    · obtain ⟨n, rfl⟩ : ∃ n : Nat, back = (n : Int) := ⟨back.toNat, by omega⟩
      obtain ⟨j, hj⟩ : ∃ j, j = L.length - 1 - n := ⟨_, rfl⟩
      have e : pk L (n : Int) = some j := by rw [pk, if_neg (by omega)]; simp [hj]
      obtain ⟨r, hr⟩ : ∃ r, L[j]? = some r := ⟨_, List.getElem?_eq_getElem (by omega)⟩
      obtain ⟨g, cap, hv, hc, _⟩ := h.at hr
      rw [e, show pkP L (some j) = .pointer (some ⟨r.b, 0, none⟩) by simp [pkP, bAt_of hr]]
      rw [hv] at hx
      have hjn : (L.length : Int) - 1 - (n : Int) = (j : Int) := by omega
      have hw1 : IntKind.i64.wrap ((L.length : Int) - 1) = (L.length : Int) - 1 := IntWalk.i64_in _ (by omega)
      have hw2 : IntKind.i64.wrap (j : Int) = (j : Int) := IntWalk.i64_in _ (by omega)
      have hjl : (j : Int) < (L.length : Int) := by omega
      have hd1 : decide ((n : Int) < 0) = false := by simp
      have hd2 : decide ((L.length : Int) ≤ (n : Int)) = false := by simp; omega
      have hd3 : decide (L.length ≤ n) = false := by simp; omega
      clear h e e0 hv hj
      go_enter Try.func6, Try.ntmps6
      go_upto_region 3 with fail
      go_quiet (fail)
      go_wp2
      refine bodyPost_ret (v := .tuple #[.pointer (some ⟨r.b, 0, none⟩), .int .i64 (j : Int)]) (by simp [results, Try.f6, go_sem]) rfl ⟨rfl, below_draws (Below.refl _ _) _⟩

theorem PSt.ne {w1 w : World} {X A B : Nat} {pv rv : Value} {L : List NdR} {l : List Value} (h : PSt w1 w X A pv rv L) (hd : Blk 32 w B l) : ¬ RB A rv B := by
  rintro (e | e)
  · exact blk_ne12 hd h.row.box (by decide) e
  · exact blk_apart hd h.row.row e (by decide) rfl
theorem PSt.ne_lt {w1 w : World} {X A B : Nat} {pv rv : Value} {L : List NdR} {l : List Value} (_ : PSt w1 w X A pv rv L) (hd : Blk 32 w B l) : B < w.heap.size := hd.lt
theorem infoPtr : (Try.prog.info? 29).map (fun i => (i.zero, i.size, i.bytes)) = some (some (.pointer none), 1, 8) := by kernel_rfl
theorem MSt.grown {w1 w w5 : World} {X A g' cap' : Nat} {pv rv : Value} {L : List NdR} {x : NdR} {ob : Obj} (h : MSt w1 w X A pv rv L x) (hz : x.z ≤ 2000) (hl : L.length < 60) (hgrow : (w.alloc ob).grownBy w5 pv.ownBlock) (hlie : pv.ownBlock = some g' ∨ g' = w.heap.size + 1)
    (hown : w5.ownsRow w1.heap.size 29 1 (.slice (some ⟨g', 0, none⟩) (L.length + 1) cap') (L.length + 1) ((L.map fun r => .pointer (some ⟨r.b, 0, none⟩)) ++ [.pointer (some ⟨x.b, 0, none⟩)])) :
    (w5.cell? ⟨X, 0, none⟩ = some pv ∧ w5.frozen? ⟨X, 0, none⟩ = false) ∧ PSt w1 (w5.setCell ⟨X, 0, none⟩ (.slice (some ⟨g', 0, none⟩) (L.length + 1) cap')) X A (.slice (some ⟨g', 0, none⟩) (L.length + 1) cap') rv (L ++ [x]) := by
  have ho : Only (fun k => pv.ownBlock = some k) w w5 := ((Only.refl (fun k => pv.ownBlock = some k) w).alloc ob).trans (grown_only hgrow)
  have b5 := h.box.only ho (fun e => blk_apart h.box h.prow e (by decide) rfl)
  have o6 := only_at w5 X 0 (.slice (some ⟨g', 0, none⟩) (L.length + 1) cap')
  refine ⟨⟨b5.at (o := 0) rfl, b5.frozen _⟩, h.push hz hl (b5.set 0 _) ?_ ((ho.mono (fun k _ hk => .inr hk)).step o6 (fun i hi e => .inl e)) (fun k hk => ?_)⟩
  · have := own_only hown o6 (fun k hk e => blk_apart b5 hown hk (by decide) e.symm)
    rw [List.length_append, List.map_append]
    exact this
  · simp only [Value.ownBlock, Option.some.injEq] at hk
    subst hk
    exact hlie.imp id (fun e => by omega)
theorem pst12_start (w1 : World) : PSt w1 ((w1.alloc (.cells #[.slice none 0 0] 24)).alloc (.cells #[.slice none 0 0] 28)) w1.heap.size (w1.heap.size + 1) (.slice none 0 0) (.slice none 0 0) [] := by
  have b1 : Blk 24 (w1.alloc (.cells #[.slice none 0 0] 24)) w1.heap.size [.slice none 0 0] := Blk.new
  have b2 : Blk 28 ((w1.alloc (.cells #[.slice none 0 0] 24)).alloc (.cells #[.slice none 0 0] 28)) (w1.heap.size + 1) [.slice none 0 0] := by
    have := Blk.new (W := w1.alloc (.cells #[.slice none 0 0] 24)) (t := 28) (l := [.slice none 0 0])
    rw [World.size_alloc] at this; exact this
  exact ⟨⟨b2, World.ownsRow_nil _ _ _ _, by simp⟩, fun i r hr => by simp at hr, b1.alloc _, World.ownsRow_nil _ _ _ _, by simp, below_step (new_below _ _) (new_below _ _), Nat.le_refl _, by omega, by simp⟩
theorem getE_some : ∀ {E : List Ent} {k : Key} {v : Int}, getE k E = some v → ∃ p ∈ E, p.2 = v
  | [], _, _, h => by simp [getE] at h
  | q :: r, k, v, h => by
    rw [getE] at h
    split at h
    · exact ⟨q, by simp, by simpa using h⟩
    · obtain ⟨p, hp, e⟩ := getE_some h
      exact ⟨p, by simp [hp], e⟩
theorem kid_full {L : List NdR} {i : Nat} {r : NdR} (h : Good L i r) {key : Key} {v : Int} (hk : getE key (toP L r.kids) = some v) : ∃ (j : Nat) (y : NdR), v = (bAt L (j : Int) : Int) ∧ L[j]? = some y ∧ ¬ bareZ y := by
  obtain ⟨p, hp, rfl⟩ := getE_some hk
  obtain ⟨q, hq, rfl⟩ := List.mem_map.1 hp
  obtain ⟨_, j, hj, _, y, hy, hb⟩ := h.kid q hq
  exact ⟨j, y, by rw [hj], hy, hb⟩
set_option maxRecDepth 100000 in
set_option maxHeartbeats 80000000 in
theorem plays12 (a : Option Addr) (cap : Nat) (D : List Dd) (s : ByteArray) (w : World) (ht : RecsIn 5 ddC w a D) :
    Calls Try.prog 3 #[.slice a D.length cap, .string s] w fun e w' => e = .returned (.bool true) ∧ Below w.heap.size w w' := by
  have T := Lib.hid ht
  clear ht
  by_cases hbig : 60 < D.length
  · go_enter Try.func3, Try.ntmps3
    go_wp2_with fail
    refine (awake12 w).mono ?_
    rintro e w1 ⟨rfl, hb⟩
    have B1 := Lib.hid hb
    clear hb
    go_wp2
    go_ret
    exact ⟨rfl, B1.out⟩
  have hd : decide ((60 : Int) < (D.length : Int)) = false := by simp; omega
  have hd2 : decide (60 < D.length) = false := by simpa using hbig
  by_cases hsz : 20 < s.size
  · have hz : (20 : Int) < (s.size : Int) := by omega
    go_enter Try.func3, Try.ntmps3
    go_wp2_with fail
    refine (awake12 w).mono ?_
    rintro e w1 ⟨rfl, hb⟩
    have B1 := Lib.hid hb
    clear hb
    go_wp2
    go_ret
    exact ⟨rfl, B1.out⟩
  obtain ⟨key, rfl, hkl⟩ : ∃ key : Key, s = ⟨key.toArray⟩ ∧ key.length ≤ 20 := ⟨s.data.toList, by simp, by simpa using hsz⟩
  have hd3 : decide ((20 : Int) < (key.length : Int)) = false := by simp; omega
  have hd4 : decide (20 < key.length) = false := by simp; omega
  have HD := Lib.hid hbig
  obtain ⟨i0, hi0, hz0, hz1, hz2⟩ := info_at infoPtr
  have HI0 := Lib.hid (And.intro hi0 (And.intro hz0 (And.intro hz1 hz2)))
  clear hsz hbig hi0 hz0 hz1 hz2
  go_enter Try.func3, Try.ntmps3
  go_wp2_with fail
  refine (awake12 w).mono ?_
  rintro e w1 ⟨rfl, hb⟩
  have B1 := Lib.hid hb
  have T1 := Lib.hid (T.out.below hb)
  clear hb T
  go_wp2_with fail
  have S3 := Lib.hid (pst12_start w1)
  obtain ⟨X, hX⟩ : ∃ X, w1.heap.size = X := ⟨_, rfl⟩
  obtain ⟨A, hA⟩ : ∃ A, w1.heap.size + 1 = A := ⟨_, rfl⟩
  have S4 : Hid (PSt w1 ((w1.alloc (.cells #[.slice none 0 0] 24)).alloc (.cells #[.slice none 0 0] 28)) X A (.slice none 0 0) (.slice none 0 0) []) := by rw [← hX, ← hA]; exact S3
  rw [hA, hX]
  clear hX hA S3
  generalize ((w1.alloc (.cells #[.slice none 0 0] 24)).alloc (.cells #[.slice none 0 0] 28)) = w3 at S4 ⊢
  go_loopg [8] D.length (fun g i wr => ∃ (k : Nat) (pv rv : Value) (L : List NdR), k + g = D.length ∧ i = .int .i64 k ∧ Hid (PSt w1 wr X A pv rv L ∧ L.length = k))
  case atStart => exact ⟨0, _, _, [], by omega, rfl, Lib.hid ⟨S4.out, rfl⟩⟩
  case round =>
    obtain ⟨k, pv, rv, L, hkg, rfl, ST⟩ := hrel
    by_cases hk : k < D.length
    · have ht := T1.out.below ST.out.1.low
      obtain ⟨b, off, rfl, hb, hc⟩ := ht.at k hk
      generalize hdd : D[k] = dd at hc
      clear hdd
      obtain ⟨kind, on, sub, kid, lev⟩ := dd
      have c0 := hc 0 _ rfl
      have c1 := hc 1 _ rfl
      have c2 := hc 2 _ rfl
      have c3 := hc 3 _ rfl
      have c4 := hc 4 _ rfl
      rw [Nat.add_zero] at c0
      clear hc ht
      have hk2 : (k : Int) < (D.length : Int) := by omega
      have hk3 : (D.length : Int) ≤ 60 := by have := HD.out; omega
      dsimp only at c0 c1 c2 c3 c4
      by_cases hlev : 20 < lev.length
      · have hl2 : (20 : Int) < (lev.length : Int) := by omega
        have hlow := Lib.hid (below_step B1.out ST.out.1.low)
        go_wp2
        go_ret
        exact ⟨rfl, hlow.out.trans ((new_below _ _).mono hlow.out.size)⟩
      · have hl3 : decide ((20 : Int) < (lev.length : Int)) = false := by simp; omega
        have hl4 : decide (20 < lev.length) = false := by simpa using hlev
        have HLV := Lib.hid hlev
        clear hlev
        go_wp2_with fail
        obtain ⟨W2, hW2⟩ : ∃ W, W = wr.alloc (.cells #[.int .i64 kind, .int .i64 on, .int .i64 sub, .int .i64 kid, keyV lev] 32) := ⟨_, rfl⟩
        have hB2 : Below wr.heap.size wr W2 := by rw [hW2]; exact new_below _ _
        have hdb : Blk 32 W2 wr.heap.size [.int .i64 kind, .int .i64 on, .int .i64 sub, .int .i64 kid, keyV lev] := by rw [hW2]; exact Blk.new
        have P2 := Lib.hid (ST.out.1.below hB2)
        have HL := Lib.hid ST.out.2
        rw [← hW2]
        clear hW2 hB2 ST c0 c1 c2 c3 c4
        refine (pick12 P2.out on).mono ?_
        rintro e w4 ⟨rfl, hB4⟩
        have db4 := hdb.below hB4 hdb.lt
        have P4 := Lib.hid (P2.out.below hB4)
        have c3 := db4.at (o := 3) rfl
        clear hB4 P2 hdb
        go_wp2_with fail
        refine (pick12 P4.out kid).mono ?_
        rintro e w5 ⟨rfl, hB5⟩
        have db5 := db4.below hB5 db4.lt
        have P5 := Lib.hid (P4.out.below hB5)
        have c0 := db5.at (o := 0) rfl
        clear hB5 P4 c3 db4
        obtain ⟨r, hpk⟩ := P5.out.pk (pk L on) (pk_lt L on)
        obtain ⟨rm, hqk⟩ := P5.out.pk (pk L kid) (pk_lt L kid)
        generalize pkP L (pk L on) = p at *
        generalize pkK (pk L on) = kk at *
        generalize pkP L (pk L kid) = q at *
        generalize pkK (pk L kid) = m at *
        have PK := Lib.hid (fun c (hc : Below w5.heap.size w5 c) => hpk.below hc)
        have PQ := Lib.hid (fun c (hc : Below w5.heap.size w5 c) => hqk.below hc)
        have PX := Lib.hid (fun c (hc : Below w5.heap.size w5 c) => P5.out.below hc)
        have DB := Lib.hid db5
        have hC : Below w5.heap.size w5 w5.drew := (Below.refl _ _).drew
        clear hpk hqk
        by_cases h0 : kind = 0
        · subst h0
          have SB : Hid (∀ c, Below w5.heap.size w5 c → c.cell? ⟨wr.heap.size, 2, none⟩ = some (.int .i64 sub)) := Lib.hid fun c hc => (db5.below hc db5.lt).at (o := 2) rfl
          clear db5 P5
          go_wp2_with fail
          refine wp_region_held_drew (S := (fun w' => w'.cell? ⟨wr.heap.size, 2, none⟩ = some (.int .i64 sub))) (by kernel_rfl) ?_ (fun hHeld => ?_)
          · exact SB.out _ hC
          refine wpAnyH_take (i := 0) (oi := ⟨some 73, _, _, _, _, _⟩) (v := ?_) rfl (by kernel_rfl) (by kernel_rfl) (by kernel_rfl) (fun _ _ _ h => h) (Or.inl ⟨by rfl, ?_⟩) (by assumption) ?_
          rotate_left
          · (intro w hSw; (try dsimp only at hSw); go_simp; try with_reducible rfl)
          try simp only [Act.put, List.setIfInBounds_toArray, List.set_cons_zero, List.set_cons_succ]
          refine wpAnyH_take (i := 1) (oi := ⟨some 74, _, _, _, _, _⟩) (v := ?_) rfl (by kernel_rfl) (by kernel_rfl) (by kernel_rfl) (fun _ _ _ h => h) (Or.inl ⟨by rfl, ?_⟩) (by assumption) ?_
          rotate_left
          · (intro w hSw; (try dsimp only at hSw); go_simp; try with_reducible rfl)
          try simp only [Act.put, List.setIfInBounds_toArray, List.set_cons_zero, List.set_cons_succ]
          refine wpAnyH_take (i := 2) (oi := ⟨some 75, _, _, _, _, _⟩) (v := ?_) rfl (by kernel_rfl) (by kernel_rfl) (by kernel_rfl) (fun _ _ _ h => h) (Or.inl ⟨by rfl, ?_⟩) (by assumption) ?_
          rotate_left
          · (intro w hSw; (try dsimp only at hSw); go_simp; try with_reducible rfl)
          try simp only [Act.put, List.setIfInBounds_toArray, List.set_cons_zero, List.set_cons_succ]
          refine wpAnyH_take (i := 4) (oi := ⟨some 77, _, _, _, _, _⟩) (v := ?_) rfl (by kernel_rfl) (by kernel_rfl) (by kernel_rfl) (fun _ _ _ h => h) (Or.inl ⟨by rfl, ?_⟩) (by assumption) ?_
          rotate_left
          · (intro w hSw; (try dsimp only at hSw); go_simp; try with_reducible rfl)
          try simp only [Act.put, List.setIfInBounds_toArray, List.set_cons_zero, List.set_cons_succ]
          refine wpAnyH_take (i := 5) (oi := ⟨some 78, _, _, _, _, _⟩) (v := ?_) rfl (by kernel_rfl) (by kernel_rfl) (by kernel_rfl) (fun _ _ _ h => h) (Or.inl ⟨by rfl, ?_⟩) (by assumption) ?_
          rotate_left
          · (intro w hSw; (try dsimp only at hSw); go_simp; try with_reducible rfl)
          try simp only [Act.put, List.setIfInBounds_toArray, List.set_cons_zero, List.set_cons_succ]
          refine wpAnyH_take (i := 6) (oi := ⟨some 79, _, _, _, _, _⟩) (v := ?_) rfl (by kernel_rfl) (by kernel_rfl) (by kernel_rfl) (fun _ _ _ h => h) (Or.inl ⟨by rfl, ?_⟩) (by assumption) ?_
          rotate_left
          · (intro w hSw; (try dsimp only at hSw); go_simp; try with_reducible rfl)
          try simp only [Act.put, List.setIfInBounds_toArray, List.set_cons_zero, List.set_cons_succ]
          refine wpAnyH_take (i := 7) (oi := ⟨some 80, _, _, _, _, _⟩) (v := ?_) rfl (by kernel_rfl) (by kernel_rfl) (by kernel_rfl) (fun _ _ _ h => h) (Or.inl ⟨by rfl, ?_⟩) (by assumption) ?_
          rotate_left
          · (intro w hSw; (try dsimp only at hSw); go_simp; try with_reducible rfl)
          try simp only [Act.put, List.setIfInBounds_toArray, List.set_cons_zero, List.set_cons_succ]
          refine wpAnyH_ready (rs := [3]) (by kernel_rfl) (by simp) ?_
          refine AllReadyH.cons (o := ⟨some 76, _, _, _, _, _⟩) rfl (fun K hK => ?_) AllReadyH.nil
          go_simp
          refine (nd_WithSub p r.subs (toP L r.kids) r.z sub w5.drew (PX.out _ hC).fresh (PK.out _ hC).pis (by have := (PK.out _ hC).subs; have := (PX.out _ hC).len; omega)).mono ?_
          rintro e w6 ⟨b', rfl, hnd, hB6⟩
          replace hC := below_step hC hB6
          clear hB6
          have ND := Lib.hid hnd
          clear hnd
          go_wp2_with fail
          refine hK.out _ _ ?_ (fun hHeldX => ?_)
          · exact SB.out _ hC
          clear hK K hHeld
          rename _ => hHeld
          try simp only [Act.put, List.setIfInBounds_toArray, List.set_cons_zero, List.set_cons_succ]
          refine wpAnyH_ready (rs := [8]) (by kernel_rfl) (by simp) ?_
          refine AllReadyH.cons (o := ⟨some 81, _, _, _, _, _⟩) rfl (fun K hK => ?_) AllReadyH.nil
          go_simp
          have hpk := PK.out _ hC
          have hst := PX.out _ hC
          have hdb6 := DB.out.below hC DB.out.lt
          refine (ref_AWith hst.row hst.low.size (by rw [List.length_map]; have := hst.len; omega) kk sub r.t hpk.own hpk.ok r.subs hpk.nums (by have := hpk.subs; have := hst.len; omega)).mono ?_
          rintro e w7 ⟨rfl, rv', u', h1, h2, h3, h4, h5, h6⟩
          rw [List.length_map]
          obtain ⟨x, MS, hxb⟩ : ∃ x : NdR, Hid (MSt w1 w7 X A pv rv' L x) ∧ x.b = b' := ⟨_, Lib.hid (hst.subbed hpk (Z := withZ sub r.subs) (withZ_len _ _) (up_withZ hpk.up) ND.out h1 h2 h3 h4 h5 h6), rfl⟩
          subst hxb
          have hB7 : w7.cell? ⟨wr.heap.size, 2, none⟩ = some (.int .i64 sub) := (World.cell?_of_block (h6.block wr.heap.size (hst.ne_lt hdb6) (hst.ne hdb6))).trans (SB.out _ hC)
          clear hpk hst hdb6 h1 h2 h3 h4 h5 h6 ND
          go_wp2_with fail
          refine hK.out _ _ ?_ (fun hHeldX => ?_)
          · exact hB7
          clear hK K hHeld
          rename _ => hHeld
          try simp only [Act.put, List.setIfInBounds_toArray, List.set_cons_zero, List.set_cons_succ]
          refine wpAnyH_take (i := 9) (oi := ⟨some 14, _, _, _, _, _⟩) (v := ?_) rfl (by kernel_rfl) (by kernel_rfl) (by kernel_rfl) (fun _ _ _ h => h) (Or.inl ⟨by rfl, ?_⟩) (by assumption) ?_
          rotate_left
          · (intro w hSw; (try dsimp only at hSw); go_simp; try with_reducible rfl)
          try simp only [Act.put, List.setIfInBounds_toArray, List.set_cons_zero, List.set_cons_succ]
          refine wpAnyH_take (i := 10) (oi := ⟨some 15, _, _, _, _, _⟩) (v := ?_) rfl (by kernel_rfl) (by kernel_rfl) (by kernel_rfl) (fun _ _ _ h => h) (Or.inl ⟨by rfl, ?_⟩) (by assumption) ?_
          rotate_left
          · (intro w hSw; (try dsimp only at hSw); go_simp; try with_reducible rfl)
          try simp only [Act.put, List.setIfInBounds_toArray, List.set_cons_zero, List.set_cons_succ]
          refine wpAnyH_done (by kernel_rfl) ?_ _
          clear hHeld hC PK PQ PX DB SB hB7
          go_wp2_with fail
          refine MS.out.size.mono ?_
          rintro e w8 ⟨rfl, hB8⟩
          have M8 := Lib.hid (MS.out.below hB8)
          clear hB8 MS
          by_cases hz : x.z ≤ 2000
          · rw [show min x.z 100000 = x.z by omega]
            have hzd : decide ((2000 : Int) < (x.z : Int)) = false := by simp; omega
            have hzd2 : decide (2000 < x.z) = false := by simp; omega
            have HZ := Lib.hid hz
            have HK := Lib.hid hkg
            have HKD := Lib.hid hk
            have cX := M8.out.box.at (o := 0) rfl
            obtain ⟨pa, pc, ep⟩ := own_form M8.out.prow
            have EP := Lib.hid ep
            rw [ep] at cX
            have hro : w8.ownsRow w1.heap.size 29 1 (.slice pa L.length pc) L.length (L.map fun r => .pointer (some ⟨r.b, 0, none⟩)) := by have := M8.out.prow; rw [ep] at this; exact this
            have HRO := Lib.hid hro
            have hlow := M8.out.low.size
            have hll : L.length < 60 := by have := HL.out; have := HD.out; omega
            clear ep hro hz
            go_wp2_with (at_builtin; (refine wpList_append_lies _ rfl _ _ 24 rfl w1.heap.size 29 i0 (.pointer none) 1 8 Try.underlying24 HI0.out.1 HI0.out.2.1 HI0.out.2.2.1 HI0.out.2.2.2 rfl (by decide) _ _ _ rfl (HRO.out.alloc _) ⟨w8.heap.size, 0, none⟩ 1 1 [.pointer (some ⟨x.b, 0, none⟩)] rfl rfl (cell_one_new _ _ _) (by simp [Value.oneCell']) (by decide) (by simp only [maxLen]; omega) (by omega) (by simp; omega) (w8.heap.size + 1) (by simp) ?_); intro g' cap' w9 hown' hgrow hlie hlt'; rw [← EP.out] at hgrow hlie; obtain ⟨⟨k9, f9⟩, hend⟩ := M8.out.grown HZ.out hll hgrow hlie hown'; rw [EP.out] at k9; have PF := Lib.hid hend; clear hown' hgrow hlie hlt' hend)
            clear M8 HRO HI0 EP i0 hlow cX
            have HLL := Lib.hid hll
            clear hll
            go_wp2_with fail
            generalize w9.setCell ⟨X, 0, none⟩ (.slice (some ⟨g', 0, none⟩) (L.length + 1) cap') = w10 at PF ⊢
            have hlast : (L ++ [x])[L.length]? = some x := by simp
            have HLA := Lib.hid hlast
            clear hlast
            refine (nd_Size _ _ _ _ w10 (PF.out.core.pis HLA.out) (by have := HZ.out; omega)).mono ?_
            rintro e w11 ⟨rfl, rfl⟩
            go_wp2_with fail
            refine (PF.out.core.size HLA.out (by have := HZ.out; omega)).mono ?_
            rintro e w12 ⟨rfl, hB12⟩
            have P12 := Lib.hid (PF.out.below hB12)
            clear hB12 PF
            rw [show min x.z 100000 = x.z by have := HZ.out; omega]
            go_wp2_with fail
            rw [← show L.length = k from HL.out]
            have h2 := same12 2 (by omega) w12 _ _ _ _ L.length x P12.out.core HLA.out (by have := HLL.out; simp; omega)
            refine h2.mono ?_
            clear h2
            rintro e w13 ⟨rfl, hB13⟩
            have P13 := Lib.hid (P12.out.below hB13)
            clear hB13 P12
            go_wp2_with fail
            go_roundg (gk - 1)
            case measure => have := HKD.out; have := HK.out; omega
            case rel => exact ⟨k + 1, _, _, L ++ [x], by have := HKD.out; have := HK.out; omega, by rw [← show L.length = k from HL.out]; exact congrArg (Value.int .i64) ((IntWalk.wrap64_in ((L.length : Int) + 1) (by have := HLL.out; omega)).trans (by simp)), Lib.hid ⟨P13.out, by have := HL.out; simp; omega⟩⟩
          · have hz1 : 2000 < min x.z 100000 := by omega
            have hlow := Lib.hid (below_step B1.out M8.out.low)
            clear M8
            generalize min x.z 100000 = z at hz1 ⊢
            have hz2 : (2000 : Int) < (z : Int) := by omega
            go_wp2
            go_ret
            exact ⟨rfl, hlow.out⟩
        · have n0 : (kind == 0) = false := by simpa using h0
          by_cases h1 : kind = 1
          · subst h1
            have SB : Hid (∀ c, Below w5.heap.size w5 c → c.cell? ⟨wr.heap.size, 2, none⟩ = some (.int .i64 sub)) := Lib.hid fun c hc => (db5.below hc db5.lt).at (o := 2) rfl
            clear db5 P5 h0 n0
            go_wp2_with fail
            refine wp_region_held_drew (S := (fun w' => w'.cell? ⟨wr.heap.size, 2, none⟩ = some (.int .i64 sub))) (by kernel_rfl) ?_ (fun hHeld => ?_)
            · exact SB.out _ hC
            refine wpAnyH_take (i := 0) (oi := ⟨some 84, _, _, _, _, _⟩) (v := ?_) rfl (by kernel_rfl) (by kernel_rfl) (by kernel_rfl) (fun _ _ _ h => h) (Or.inl ⟨by rfl, ?_⟩) (by assumption) ?_
            rotate_left
            · (intro w hSw; (try dsimp only at hSw); go_simp; try with_reducible rfl)
            try simp only [Act.put, List.setIfInBounds_toArray, List.set_cons_zero, List.set_cons_succ]
            refine wpAnyH_take (i := 1) (oi := ⟨some 85, _, _, _, _, _⟩) (v := ?_) rfl (by kernel_rfl) (by kernel_rfl) (by kernel_rfl) (fun _ _ _ h => h) (Or.inl ⟨by rfl, ?_⟩) (by assumption) ?_
            rotate_left
            · (intro w hSw; (try dsimp only at hSw); go_simp; try with_reducible rfl)
            try simp only [Act.put, List.setIfInBounds_toArray, List.set_cons_zero, List.set_cons_succ]
            refine wpAnyH_take (i := 2) (oi := ⟨some 86, _, _, _, _, _⟩) (v := ?_) rfl (by kernel_rfl) (by kernel_rfl) (by kernel_rfl) (fun _ _ _ h => h) (Or.inl ⟨by rfl, ?_⟩) (by assumption) ?_
            rotate_left
            · (intro w hSw; (try dsimp only at hSw); go_simp; try with_reducible rfl)
            try simp only [Act.put, List.setIfInBounds_toArray, List.set_cons_zero, List.set_cons_succ]
            refine wpAnyH_take (i := 4) (oi := ⟨some 88, _, _, _, _, _⟩) (v := ?_) rfl (by kernel_rfl) (by kernel_rfl) (by kernel_rfl) (fun _ _ _ h => h) (Or.inl ⟨by rfl, ?_⟩) (by assumption) ?_
            rotate_left
            · (intro w hSw; (try dsimp only at hSw); go_simp; try with_reducible rfl)
            try simp only [Act.put, List.setIfInBounds_toArray, List.set_cons_zero, List.set_cons_succ]
            refine wpAnyH_take (i := 5) (oi := ⟨some 89, _, _, _, _, _⟩) (v := ?_) rfl (by kernel_rfl) (by kernel_rfl) (by kernel_rfl) (fun _ _ _ h => h) (Or.inl ⟨by rfl, ?_⟩) (by assumption) ?_
            rotate_left
            · (intro w hSw; (try dsimp only at hSw); go_simp; try with_reducible rfl)
            try simp only [Act.put, List.setIfInBounds_toArray, List.set_cons_zero, List.set_cons_succ]
            refine wpAnyH_take (i := 6) (oi := ⟨some 90, _, _, _, _, _⟩) (v := ?_) rfl (by kernel_rfl) (by kernel_rfl) (by kernel_rfl) (fun _ _ _ h => h) (Or.inl ⟨by rfl, ?_⟩) (by assumption) ?_
            rotate_left
            · (intro w hSw; (try dsimp only at hSw); go_simp; try with_reducible rfl)
            try simp only [Act.put, List.setIfInBounds_toArray, List.set_cons_zero, List.set_cons_succ]
            refine wpAnyH_take (i := 7) (oi := ⟨some 91, _, _, _, _, _⟩) (v := ?_) rfl (by kernel_rfl) (by kernel_rfl) (by kernel_rfl) (fun _ _ _ h => h) (Or.inl ⟨by rfl, ?_⟩) (by assumption) ?_
            rotate_left
            · (intro w hSw; (try dsimp only at hSw); go_simp; try with_reducible rfl)
            try simp only [Act.put, List.setIfInBounds_toArray, List.set_cons_zero, List.set_cons_succ]
            refine wpAnyH_ready (rs := [3]) (by kernel_rfl) (by simp) ?_
            refine AllReadyH.cons (o := ⟨some 87, _, _, _, _, _⟩) rfl (fun K hK => ?_) AllReadyH.nil
            go_simp
            refine (nd_WithoutSub p r.subs (toP L r.kids) r.z sub w5.drew (PX.out _ hC).fresh (PK.out _ hC).pis (by have := (PK.out _ hC).subs; have := (PX.out _ hC).len; omega)).mono ?_
            rintro e w6 ⟨b', rfl, hnd, hB6⟩
            replace hC := below_step hC hB6
            clear hB6
            have ND := Lib.hid hnd
            clear hnd
            go_wp2_with fail
            refine hK.out _ _ ?_ (fun hHeldX => ?_)
            · exact SB.out _ hC
            clear hK K hHeld
            rename _ => hHeld
            try simp only [Act.put, List.setIfInBounds_toArray, List.set_cons_zero, List.set_cons_succ]
            refine wpAnyH_ready (rs := [8]) (by kernel_rfl) (by simp) ?_
            refine AllReadyH.cons (o := ⟨some 92, _, _, _, _, _⟩) rfl (fun K hK => ?_) AllReadyH.nil
            go_simp
            have hpk := PK.out _ hC
            have hst := PX.out _ hC
            have hdb6 := DB.out.below hC DB.out.lt
            refine (ref_AWithout hst.row hst.low.size (by rw [List.length_map]; have := hst.len; omega) kk sub r.t hpk.own hpk.ok r.subs hpk.nums (by have := hpk.subs; have := hst.len; omega)).mono ?_
            rintro e w7 ⟨rfl, rv', u', h1, h2, h3, h4, h5, h6⟩
            rw [List.length_map]
            obtain ⟨x, MS, hxb⟩ : ∃ x : NdR, Hid (MSt w1 w7 X A pv rv' L x) ∧ x.b = b' := ⟨_, Lib.hid (hst.subbed hpk (Z := woZ sub r.subs) (Nat.le_succ_of_le (List.length_filter_le _ _)) (up_woZ hpk.up) ND.out h1 h2 h3 h4 h5 h6), rfl⟩
            subst hxb
            have hB7 : w7.cell? ⟨wr.heap.size, 2, none⟩ = some (.int .i64 sub) := (World.cell?_of_block (h6.block wr.heap.size (hst.ne_lt hdb6) (hst.ne hdb6))).trans (SB.out _ hC)
            clear hpk hst hdb6 h1 h2 h3 h4 h5 h6 ND
            go_wp2_with fail
            refine hK.out _ _ ?_ (fun hHeldX => ?_)
            · exact hB7
            clear hK K hHeld
            rename _ => hHeld
            try simp only [Act.put, List.setIfInBounds_toArray, List.set_cons_zero, List.set_cons_succ]
            refine wpAnyH_take (i := 9) (oi := ⟨some 14, _, _, _, _, _⟩) (v := ?_) rfl (by kernel_rfl) (by kernel_rfl) (by kernel_rfl) (fun _ _ _ h => h) (Or.inl ⟨by rfl, ?_⟩) (by assumption) ?_
            rotate_left
            · (intro w hSw; (try dsimp only at hSw); go_simp; try with_reducible rfl)
            try simp only [Act.put, List.setIfInBounds_toArray, List.set_cons_zero, List.set_cons_succ]
            refine wpAnyH_take (i := 10) (oi := ⟨some 15, _, _, _, _, _⟩) (v := ?_) rfl (by kernel_rfl) (by kernel_rfl) (by kernel_rfl) (fun _ _ _ h => h) (Or.inl ⟨by rfl, ?_⟩) (by assumption) ?_
            rotate_left
            · (intro w hSw; (try dsimp only at hSw); go_simp; try with_reducible rfl)
            try simp only [Act.put, List.setIfInBounds_toArray, List.set_cons_zero, List.set_cons_succ]
            refine wpAnyH_done (by kernel_rfl) ?_ _
            clear hHeld hC PK PQ PX DB SB hB7
            go_wp2_with fail
            refine MS.out.size.mono ?_
            rintro e w8 ⟨rfl, hB8⟩
            have M8 := Lib.hid (MS.out.below hB8)
            clear hB8 MS
            by_cases hz : x.z ≤ 2000
            · rw [show min x.z 100000 = x.z by omega]
              have hzd : decide ((2000 : Int) < (x.z : Int)) = false := by simp; omega
              have hzd2 : decide (2000 < x.z) = false := by simp; omega
              have HZ := Lib.hid hz
              have HK := Lib.hid hkg
              have HKD := Lib.hid hk
              have cX := M8.out.box.at (o := 0) rfl
              obtain ⟨pa, pc, ep⟩ := own_form M8.out.prow
              have EP := Lib.hid ep
              rw [ep] at cX
              have hro : w8.ownsRow w1.heap.size 29 1 (.slice pa L.length pc) L.length (L.map fun r => .pointer (some ⟨r.b, 0, none⟩)) := by have := M8.out.prow; rw [ep] at this; exact this
              have HRO := Lib.hid hro
              have hlow := M8.out.low.size
              have hll : L.length < 60 := by have := HL.out; have := HD.out; omega
              clear ep hro hz
              go_wp2_with (at_builtin; (refine wpList_append_lies _ rfl _ _ 24 rfl w1.heap.size 29 i0 (.pointer none) 1 8 Try.underlying24 HI0.out.1 HI0.out.2.1 HI0.out.2.2.1 HI0.out.2.2.2 rfl (by decide) _ _ _ rfl (HRO.out.alloc _) ⟨w8.heap.size, 0, none⟩ 1 1 [.pointer (some ⟨x.b, 0, none⟩)] rfl rfl (cell_one_new _ _ _) (by simp [Value.oneCell']) (by decide) (by simp only [maxLen]; omega) (by omega) (by simp; omega) (w8.heap.size + 1) (by simp) ?_); intro g' cap' w9 hown' hgrow hlie hlt'; rw [← EP.out] at hgrow hlie; obtain ⟨⟨k9, f9⟩, hend⟩ := M8.out.grown HZ.out hll hgrow hlie hown'; rw [EP.out] at k9; have PF := Lib.hid hend; clear hown' hgrow hlie hlt' hend)
              clear M8 HRO HI0 EP i0 hlow cX
              have HLL := Lib.hid hll
              clear hll
              go_wp2_with fail
              generalize w9.setCell ⟨X, 0, none⟩ (.slice (some ⟨g', 0, none⟩) (L.length + 1) cap') = w10 at PF ⊢
              have hlast : (L ++ [x])[L.length]? = some x := by simp
              have HLA := Lib.hid hlast
              clear hlast
              refine (nd_Size _ _ _ _ w10 (PF.out.core.pis HLA.out) (by have := HZ.out; omega)).mono ?_
              rintro e w11 ⟨rfl, rfl⟩
              go_wp2_with fail
              refine (PF.out.core.size HLA.out (by have := HZ.out; omega)).mono ?_
              rintro e w12 ⟨rfl, hB12⟩
              have P12 := Lib.hid (PF.out.below hB12)
              clear hB12 PF
              rw [show min x.z 100000 = x.z by have := HZ.out; omega]
              go_wp2_with fail
              rw [← show L.length = k from HL.out]
              have h2 := same12 2 (by omega) w12 _ _ _ _ L.length x P12.out.core HLA.out (by have := HLL.out; simp; omega)
              refine h2.mono ?_
              clear h2
              rintro e w13 ⟨rfl, hB13⟩
              have P13 := Lib.hid (P12.out.below hB13)
              clear hB13 P12
              go_wp2_with fail
              go_roundg (gk - 1)
              case measure => have := HKD.out; have := HK.out; omega
              case rel => exact ⟨k + 1, _, _, L ++ [x], by have := HKD.out; have := HK.out; omega, by rw [← show L.length = k from HL.out]; exact congrArg (Value.int .i64) ((IntWalk.wrap64_in ((L.length : Int) + 1) (by have := HLL.out; omega)).trans (by simp)), Lib.hid ⟨P13.out, by have := HL.out; simp; omega⟩⟩
            · have hz1 : 2000 < min x.z 100000 := by omega
              have hlow := Lib.hid (below_step B1.out M8.out.low)
              clear M8
              generalize min x.z 100000 = z at hz1 ⊢
              have hz2 : (2000 : Int) < (z : Int) := by omega
              go_wp2
              go_ret
              exact ⟨rfl, hlow.out⟩
          · have n1 : (kind == 1) = false := by simpa using h1
            have SB : Hid (∀ c, Below w5.heap.size w5 c → c.cell? ⟨wr.heap.size, 4, none⟩ = some (keyV lev)) := Lib.hid fun c hc => (db5.below hc db5.lt).at (o := 4) rfl
            clear db5 P5 h0 h1
            go_wp2_with fail
            refine wp_region_held_drew (S := (fun w' => w'.cell? ⟨wr.heap.size, 4, none⟩ = some (keyV lev))) (by kernel_rfl) ?_ (fun hHeld => ?_)
            · exact SB.out _ hC
            refine wpAnyH_take (i := 0) (oi := ⟨some 60, _, _, _, _, _⟩) (v := ?_) rfl (by kernel_rfl) (by kernel_rfl) (by kernel_rfl) (fun _ _ _ h => h) (Or.inl ⟨by rfl, ?_⟩) (by assumption) ?_
            rotate_left
            · (intro w hSw; (try dsimp only at hSw); go_simp; try with_reducible rfl)
            try simp only [Act.put, List.setIfInBounds_toArray, List.set_cons_zero, List.set_cons_succ]
            refine wpAnyH_take (i := 1) (oi := ⟨some 61, _, _, _, _, _⟩) (v := ?_) rfl (by kernel_rfl) (by kernel_rfl) (by kernel_rfl) (fun _ _ _ h => h) (Or.inl ⟨by rfl, ?_⟩) (by assumption) ?_
            rotate_left
            · (intro w hSw; (try dsimp only at hSw); go_simp; try with_reducible rfl)
            try simp only [Act.put, List.setIfInBounds_toArray, List.set_cons_zero, List.set_cons_succ]
            refine wpAnyH_take (i := 2) (oi := ⟨some 62, _, _, _, _, _⟩) (v := ?_) rfl (by kernel_rfl) (by kernel_rfl) (by kernel_rfl) (fun _ _ _ h => h) (Or.inl ⟨by rfl, ?_⟩) (by assumption) ?_
            rotate_left
            · (intro w hSw; (try dsimp only at hSw); go_simp; try with_reducible rfl)
            try simp only [Act.put, List.setIfInBounds_toArray, List.set_cons_zero, List.set_cons_succ]
            refine wpAnyH_take (i := 3) (oi := ⟨some 63, _, _, _, _, _⟩) (v := ?_) rfl (by kernel_rfl) (by kernel_rfl) (by kernel_rfl) (fun _ _ _ h => h) (Or.inl ⟨by rfl, ?_⟩) (by assumption) ?_
            rotate_left
            · (intro w hSw; (try dsimp only at hSw); go_simp; try with_reducible rfl)
            try simp only [Act.put, List.setIfInBounds_toArray, List.set_cons_zero, List.set_cons_succ]
            refine wpAnyH_take (i := 5) (oi := ⟨some 65, _, _, _, _, _⟩) (v := ?_) rfl (by kernel_rfl) (by kernel_rfl) (by kernel_rfl) (fun _ _ _ h => h) (Or.inl ⟨by rfl, ?_⟩) (by assumption) ?_
            rotate_left
            · (intro w hSw; (try dsimp only at hSw); go_simp; try with_reducible rfl)
            try simp only [Act.put, List.setIfInBounds_toArray, List.set_cons_zero, List.set_cons_succ]
            refine wpAnyH_take (i := 6) (oi := ⟨some 66, _, _, _, _, _⟩) (v := ?_) rfl (by kernel_rfl) (by kernel_rfl) (by kernel_rfl) (fun _ _ _ h => h) (Or.inl ⟨by rfl, ?_⟩) (by assumption) ?_
            rotate_left
            · (intro w hSw; (try dsimp only at hSw); go_simp; try with_reducible rfl)
            try simp only [Act.put, List.setIfInBounds_toArray, List.set_cons_zero, List.set_cons_succ]
            refine wpAnyH_take (i := 7) (oi := ⟨some 67, _, _, _, _, _⟩) (v := ?_) rfl (by kernel_rfl) (by kernel_rfl) (by kernel_rfl) (fun _ _ _ h => h) (Or.inl ⟨by rfl, ?_⟩) (by assumption) ?_
            rotate_left
            · (intro w hSw; (try dsimp only at hSw); go_simp; try with_reducible rfl)
            try simp only [Act.put, List.setIfInBounds_toArray, List.set_cons_zero, List.set_cons_succ]
            refine wpAnyH_take (i := 8) (oi := ⟨some 68, _, _, _, _, _⟩) (v := ?_) rfl (by kernel_rfl) (by kernel_rfl) (by kernel_rfl) (fun _ _ _ h => h) (Or.inl ⟨by rfl, ?_⟩) (by assumption) ?_
            rotate_left
            · (intro w hSw; (try dsimp only at hSw); go_simp; try with_reducible rfl)
            try simp only [Act.put, List.setIfInBounds_toArray, List.set_cons_zero, List.set_cons_succ]
            refine wpAnyH_take (i := 9) (oi := ⟨some 69, _, _, _, _, _⟩) (v := ?_) rfl (by kernel_rfl) (by kernel_rfl) (by kernel_rfl) (fun _ _ _ h => h) (Or.inl ⟨by rfl, ?_⟩) (by assumption) ?_
            rotate_left
            · (intro w hSw; (try dsimp only at hSw); go_simp; try with_reducible rfl)
            try simp only [Act.put, List.setIfInBounds_toArray, List.set_cons_zero, List.set_cons_succ]
            refine wpAnyH_ready (rs := [4]) (by kernel_rfl) (by simp) ?_
            refine AllReadyH.cons (o := ⟨some 64, _, _, _, _, _⟩) rfl (fun K hK => ?_) AllReadyH.nil
            go_simp
            refine (nd_Kidded (PX.out _ hC) (PK.out _ hC) (PQ.out _ hC) lev (by have := HLV.out; omega)).mono ?_
            rintro e w6 ⟨b', rfl, hnd, hB6⟩
            replace hC := below_step hC hB6
            clear hB6
            have ND := Lib.hid hnd
            clear hnd
            go_wp2_with fail
            refine hK.out _ _ ?_ (fun hHeldX => ?_)
            · exact SB.out _ hC
            clear hK K hHeld
            rename _ => hHeld
            try simp only [Act.put, List.setIfInBounds_toArray, List.set_cons_zero, List.set_cons_succ]
            refine wpAnyH_ready (rs := [10]) (by kernel_rfl) (by simp) ?_
            refine AllReadyH.cons (o := ⟨some 70, _, _, _, _, _⟩) rfl (fun K hK => ?_) AllReadyH.nil
            go_simp
            have hpk := PK.out _ hC
            have hqk := PQ.out _ hC
            have hst := PX.out _ hC
            have hdb6 := DB.out.below hC DB.out.lt
            have hlk : lev.length ≤ 20 := by have := HLV.out; omega
            refine (ref_AKid hst.row hst.low.size (by rw [List.length_map]; have := hst.len; omega) kk m lev r.t rm.t hpk.own hpk.ok hqk.own hqk.ok r.kids hpk.ref (by have := hpk.kids; have := hst.len; omega) (fun p hp => by have := (hpk.kid p hp).1; omega) rm.subs rm.kids hqk.nums hqk.ref (kidK lev m r rm) (by unfold kidK; split <;> rename_i hbz <;> first | exact .inl ⟨hbz, rfl⟩ | exact .inr ⟨hbz, rfl⟩)).mono ?_
            rintro e w7 ⟨rfl, rv', ks', vs', h1, h2, h3, h3', h4, h4', h5, h6⟩
            rw [List.length_map]
            obtain ⟨x, MS, hxb⟩ : ∃ x : NdR, Hid (MSt w1 w7 X A pv rv' L x) ∧ x.b = b' := ⟨_, Lib.hid (hst.kidded hpk hqk hlk ND.out h1 h2 h3 h3' h4 h4' h5 h6), rfl⟩
            subst hxb
            have hB7 : w7.cell? ⟨wr.heap.size, 4, none⟩ = some (keyV lev) := (World.cell?_of_block (h6.block wr.heap.size (hst.ne_lt hdb6) (hst.ne hdb6))).trans (SB.out _ hC)
            clear hpk hqk hst hdb6 hlk h1 h2 h3 h3' h4 h4' h5 h6 ND
            go_wp2_with fail
            refine hK.out _ _ ?_ (fun hHeldX => ?_)
            · exact hB7
            clear hK K hHeld
            rename _ => hHeld
            try simp only [Act.put, List.setIfInBounds_toArray, List.set_cons_zero, List.set_cons_succ]
            refine wpAnyH_take (i := 11) (oi := ⟨some 14, _, _, _, _, _⟩) (v := ?_) rfl (by kernel_rfl) (by kernel_rfl) (by kernel_rfl) (fun _ _ _ h => h) (Or.inl ⟨by rfl, ?_⟩) (by assumption) ?_
            rotate_left
            · (intro w hSw; (try dsimp only at hSw); go_simp; try with_reducible rfl)
            try simp only [Act.put, List.setIfInBounds_toArray, List.set_cons_zero, List.set_cons_succ]
            refine wpAnyH_take (i := 12) (oi := ⟨some 15, _, _, _, _, _⟩) (v := ?_) rfl (by kernel_rfl) (by kernel_rfl) (by kernel_rfl) (fun _ _ _ h => h) (Or.inl ⟨by rfl, ?_⟩) (by assumption) ?_
            rotate_left
            · (intro w hSw; (try dsimp only at hSw); go_simp; try with_reducible rfl)
            try simp only [Act.put, List.setIfInBounds_toArray, List.set_cons_zero, List.set_cons_succ]
            refine wpAnyH_done (by kernel_rfl) ?_ _
            clear hHeld hC PK PQ PX DB SB hB7
            go_wp2_with fail
            refine MS.out.size.mono ?_
            rintro e w8 ⟨rfl, hB8⟩
            have M8 := Lib.hid (MS.out.below hB8)
            clear hB8 MS
            by_cases hz : x.z ≤ 2000
            · rw [show min x.z 100000 = x.z by omega]
              have hzd : decide ((2000 : Int) < (x.z : Int)) = false := by simp; omega
              have hzd2 : decide (2000 < x.z) = false := by simp; omega
              have HZ := Lib.hid hz
              have HK := Lib.hid hkg
              have HKD := Lib.hid hk
              have cX := M8.out.box.at (o := 0) rfl
              obtain ⟨pa, pc, ep⟩ := own_form M8.out.prow
              have EP := Lib.hid ep
              rw [ep] at cX
              have hro : w8.ownsRow w1.heap.size 29 1 (.slice pa L.length pc) L.length (L.map fun r => .pointer (some ⟨r.b, 0, none⟩)) := by have := M8.out.prow; rw [ep] at this; exact this
              have HRO := Lib.hid hro
              have hlow := M8.out.low.size
              have hll : L.length < 60 := by have := HL.out; have := HD.out; omega
              clear ep hro hz
              go_wp2_with (at_builtin; (refine wpList_append_lies _ rfl _ _ 24 rfl w1.heap.size 29 i0 (.pointer none) 1 8 Try.underlying24 HI0.out.1 HI0.out.2.1 HI0.out.2.2.1 HI0.out.2.2.2 rfl (by decide) _ _ _ rfl (HRO.out.alloc _) ⟨w8.heap.size, 0, none⟩ 1 1 [.pointer (some ⟨x.b, 0, none⟩)] rfl rfl (cell_one_new _ _ _) (by simp [Value.oneCell']) (by decide) (by simp only [maxLen]; omega) (by omega) (by simp; omega) (w8.heap.size + 1) (by simp) ?_); intro g' cap' w9 hown' hgrow hlie hlt'; rw [← EP.out] at hgrow hlie; obtain ⟨⟨k9, f9⟩, hend⟩ := M8.out.grown HZ.out hll hgrow hlie hown'; rw [EP.out] at k9; have PF := Lib.hid hend; clear hown' hgrow hlie hlt' hend)
              clear M8 HRO HI0 EP i0 hlow cX
              have HLL := Lib.hid hll
              clear hll
              go_wp2_with fail
              generalize w9.setCell ⟨X, 0, none⟩ (.slice (some ⟨g', 0, none⟩) (L.length + 1) cap') = w10 at PF ⊢
              have hlast : (L ++ [x])[L.length]? = some x := by simp
              have HLA := Lib.hid hlast
              clear hlast
              refine (nd_Size _ _ _ _ w10 (PF.out.core.pis HLA.out) (by have := HZ.out; omega)).mono ?_
              rintro e w11 ⟨rfl, rfl⟩
              go_wp2_with fail
              refine (PF.out.core.size HLA.out (by have := HZ.out; omega)).mono ?_
              rintro e w12 ⟨rfl, hB12⟩
              have P12 := Lib.hid (PF.out.below hB12)
              clear hB12 PF
              rw [show min x.z 100000 = x.z by have := HZ.out; omega]
              go_wp2_with fail
              rw [← show L.length = k from HL.out]
              have h2 := same12 2 (by omega) w12 _ _ _ _ L.length x P12.out.core HLA.out (by have := HLL.out; simp; omega)
              refine h2.mono ?_
              clear h2
              rintro e w13 ⟨rfl, hB13⟩
              have P13 := Lib.hid (P12.out.below hB13)
              clear hB13 P12
              go_wp2_with fail
              go_roundg (gk - 1)
              case measure => have := HKD.out; have := HK.out; omega
              case rel => exact ⟨k + 1, _, _, L ++ [x], by have := HKD.out; have := HK.out; omega, by rw [← show L.length = k from HL.out]; exact congrArg (Value.int .i64) ((IntWalk.wrap64_in ((L.length : Int) + 1) (by have := HLL.out; omega)).trans (by simp)), Lib.hid ⟨P13.out, by have := HL.out; simp; omega⟩⟩
            · have hz1 : 2000 < min x.z 100000 := by omega
              have hlow := Lib.hid (below_step B1.out M8.out.low)
              clear M8
              generalize min x.z 100000 = z at hz1 ⊢
              have hz2 : (2000 : Int) < (z : Int) := by omega
              go_wp2
              go_ret
              exact ⟨rfl, hlow.out⟩
    · have P := Lib.hid ST.out.1
      have HL : L.length = D.length := by have := ST.out.2; omega
      have HLL := Lib.hid (show L.length ≤ 60 by have := HD.out; omega)
      have cX := P.out.box.at (o := 0) rfl
      obtain ⟨pa, pc, ep⟩ := own_form P.out.prow
      subst ep
      have hkd : decide (k < D.length) = false := by simpa using hk
      clear ST hkg hk hd hd2 HI0 i0
      clear HD HL
      go_wp2_with fail
      clear cX
      go_loopg [16] L.length (fun g i wx => ∃ (j : Nat), j + g = L.length ∧ i = .int .i64 j ∧ Hid (PSt w1 wx X A (.slice pa L.length pc) rv L))
      case atStart => exact ⟨0, by omega, rfl, P⟩
      case round =>
        clear P
        obtain ⟨j, hjg, rfl, P⟩ := hrel
        have cX := P.out.box.at (o := 0) rfl
        by_cases hj : j < L.length
        · obtain ⟨r, hr⟩ : ∃ r, L[j]? = some r := ⟨_, List.getElem?_eq_getElem hj⟩
          obtain ⟨g, cap', hv, cr, _⟩ := P.out.at hr
          rw [Value.slice.injEq] at hv
          obtain ⟨rfl, _, rfl⟩ := hv
          have hj2 : (j : Int) < (L.length : Int) := by omega
          have HR := Lib.hid hr
          clear hr
          go_wp2_with fail
          refine (same12 1 (by omega) wr _ _ _ _ j r P.out.core HR.out (by have := HLL.out; omega)).mono ?_
          rintro e w4 ⟨rfl, hB4⟩
          have P4 := Lib.hid (P.out.below hB4)
          clear hB4 P cX cr
          have cX := P4.out.box.at (o := 0) rfl
          obtain ⟨_, _, hv, cr, _⟩ := P4.out.at HR.out
          rw [Value.slice.injEq, Option.some.injEq, Addr.mk.injEq] at hv
          obtain ⟨⟨rfl, _⟩, _, rfl⟩ := hv
          go_wp2_with fail
          have HG := Lib.hid (P4.out.all j r HR.out).2
          refine (nd_Kid _ _ _ _ key w4 (P4.out.core.pis HR.out) (by rw [toP_len]; have := HG.out.kids; have := HLL.out; omega)).mono ?_
          rintro e w5 ⟨rfl, hB5⟩
          have P5 := Lib.hid (P4.out.below hB5)
          clear hB5 P4 cX cr
          cases hk : getE key (toP L r.kids) with
          | none =>
            simp only [kidV]
            go_wp2_with fail
            go_roundg (gk - 1)
            case measure => omega
            case rel => exact ⟨j + 1, by omega, by exact congrArg (Value.int .i64) ((IntWalk.wrap64_in ((j : Int) + 1) (by have := HLL.out; omega)).trans (by simp)), P5⟩
          | some v =>
            obtain ⟨j2, y, rfl, hy, hb⟩ := kid_full HG.out hk
            have HY := Lib.hid (And.intro hy hb)
            have HK2 := Lib.hid hk
            clear hk hy hb
            have hpv : ptrV ((bAt L (j2 : Int) : Nat) : Int) = Value.pointer (some ⟨y.b, 0, none⟩) := by rw [bAt_of HY.out.1]; rfl
            simp only [kidV, hpv]
            clear hpv
            have cX := P5.out.box.at (o := 0) rfl
            obtain ⟨_, _, hv, cr, _⟩ := P5.out.at HR.out
            rw [Value.slice.injEq, Option.some.injEq, Addr.mk.injEq] at hv
            obtain ⟨⟨rfl, _⟩, _, rfl⟩ := hv
            go_wp2_with fail
            refine (nd_Kid _ _ _ _ key w5 (P5.out.core.pis HR.out) (by rw [toP_len]; have := HG.out.kids; have := HLL.out; omega)).mono ?_
            rintro e w6 ⟨rfl, hB6⟩
            have P6 := Lib.hid (P5.out.below hB6)
            clear hB6 P5 cX cr
            rw [HK2.out]
            have hpv : ptrV ((bAt L (j2 : Int) : Nat) : Int) = Value.pointer (some ⟨y.b, 0, none⟩) := by rw [bAt_of HY.out.1]; rfl
            simp only [kidV, hpv]
            clear hpv
            go_wp2_with fail
            refine (nd_Bare _ _ _ _ w6 (P6.out.core.pis HY.out.1) false (by rw [toP_nil]; exact ⟨fun h => (by cases h), fun h => (HY.out.2 h).elim⟩)).mono ?_
            rintro e w7 ⟨rfl, hB7⟩
            have P7 := Lib.hid (P6.out.below hB7)
            clear hB7 P6
            go_wp2_with fail
            go_roundg (gk - 1)
            case measure => omega
            case rel => exact ⟨j + 1, by omega, by exact congrArg (Value.int .i64) ((IntWalk.wrap64_in ((j : Int) + 1) (by have := HLL.out; omega)).trans (by simp)), P7⟩
        · have hlow := Lib.hid (below_step B1.out P.out.low)
          go_wp2_with fail
          go_ret
          exact ⟨rfl, hlow.out⟩

end Go.Proofs.Yteigkomefehpjaa
