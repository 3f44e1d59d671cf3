/- The document's own answers of layer 3 on maps: Put. Made by tools/gen_refmap.py. -/
import Derived.Test.YtmfejpbijllojaaGreatRefMap3
namespace Go.Proofs.YtmfejpbijllojaaGreat
open Go.RowKit Go.Shelf

set_option maxHeartbeats 4000000 in
set_option maxRecDepth 100000 in
theorem ref_Put0 (v : Value) (E : List Ent) (k : Key) (x : Int) (w : World) (h : RefIn w v E) (hbig : E.length ≤ 10000) (hkl : ∀ p ∈ E, p.1.length ≤ 1000000) :
    Calls Tryz.prog 33 #[v, keyV k, .int .i64 x] w fun e w' => ∃ r, e = .returned r ∧ RefFr w.heap.size w' r (putE k x E) ∧ Below w.heap.size w w' := by
  obtain ⟨ka, kc, va, vc, rfl, h1, h2⟩ := h
  have hB : Below w.heap.size w (((w.alloc (.cells #[.slice ka E.length kc, .slice va E.length vc] 61)).alloc (.cells #[.slice none 0 0, .slice none 0 0] 61)).alloc (.cells #[.slice none 0 0, .slice none 0 0] 61)) := (((Below.refl _ _).alloc (Nat.le_refl _) _).alloc (by simp) _).alloc (by simp; omega) _
  have K1 := Lib.hid (fun i p (hp : E[i]? = some p) => slice_at (f := fun p : Ent => keyV p.1) h1 i p hp)
  have V1 := Lib.hid (fun i p (hp : E[i]? = some p) => slice_at (f := fun p : Ent => numV p.2) h2 i p hp)
  clear h1 h2
  go_enter Tryz.func33, Tryz.ntmps33
  go_wp2
  have hO : (((w.alloc (.cells #[.slice ka E.length kc, .slice va E.length vc] 61)).alloc (.cells #[.slice none 0 0, .slice none 0 0] 61)).alloc (.cells #[.slice none 0 0, .slice none 0 0] 61)).heap[w.heap.size + 2]? = some (.cells #[.slice none 0 0, .slice none 0 0] 61 (0, 0)) := by
    rw [heap_alloc_at, if_pos (by simp)]
  have hR : (((w.alloc (.cells #[.slice ka E.length kc, .slice va E.length vc] 61)).alloc (.cells #[.slice none 0 0, .slice none 0 0] 61)).alloc (.cells #[.slice none 0 0, .slice none 0 0] 61)).heap[w.heap.size + 1]? = some (.cells #[.slice none 0 0, .slice none 0 0] 61 (0, 0)) := by
    rw [heap_alloc_at, if_neg (by simp), heap_alloc_at, if_pos (by simp)]
  have hM : (((w.alloc (.cells #[.slice ka E.length kc, .slice va E.length vc] 61)).alloc (.cells #[.slice none 0 0, .slice none 0 0] 61)).alloc (.cells #[.slice none 0 0, .slice none 0 0] 61)).heap[w.heap.size]? = some (.cells #[.slice ka E.length kc, .slice va E.length vc] 61 (0, 0)) := by
    rw [heap_alloc_at, if_neg (by simp; omega), heap_alloc_at, if_neg (by simp), heap_alloc_at, if_pos rfl]
  have hz : (((w.alloc (.cells #[.slice ka E.length kc, .slice va E.length vc] 61)).alloc (.cells #[.slice none 0 0, .slice none 0 0] 61)).alloc (.cells #[.slice none 0 0, .slice none 0 0] 61)).heap.size = w.heap.size + 3 := by simp
  generalize (((w.alloc (.cells #[.slice ka E.length kc, .slice va E.length vc] 61)).alloc (.cells #[.slice none 0 0, .slice none 0 0] 61)).alloc (.cells #[.slice none 0 0, .slice none 0 0] 61)) = W3 at hB hO hR hM hz ⊢
  obtain ⟨O, hOw⟩ : ∃ O, O = w.heap.size + 2 := ⟨_, rfl⟩
  have hOw1 : w.heap.size + 1 + 1 = O := by omega
  rw [hOw1]
  rw [← hOw] at hO
  have hO1 : w.heap.size < O := by omega
  have hO2 : w.heap.size + 1 < O := by omega
  have HOW := Lib.hid hOw
  clear hOw hOw1
  have m0 : W3.cell? ⟨w.heap.size, 0, none⟩ = some (.slice ka E.length kc) := by simp [World.cell?, hM]
  have m1 : W3.cell? ⟨w.heap.size, 1, none⟩ = some (.slice va E.length vc) := by simp [World.cell?, hM]
  have BB := Lib.hid hB
  have HR3 := Lib.hid hR
  clear hB hM hR
  go_loopw [8, 9] (fun d i wr => ∃ (j : Nat) (dn : Bool) (M : List Ent) (ko vo : Value), j ≤ E.length ∧ M.length ≤ j + 1 ∧ d = .bool dn ∧ i = .int .i64 j ∧ Hid (putE k x E = M ++ restE k x dn (E.drop j)) ∧ OutIn wr O ko vo (M.map Prod.fst) (M.map Prod.snd) ∧ (dn = false → M.length ≤ j) ∧ Below O W3 wr) (fun _ i _ => E.length - (intOf i).toNat)
  case atStart => exact ⟨0, false, [], _, _, Nat.zero_le _, Nat.zero_le _, rfl, rfl, rfl, ⟨hO, World.ownsRow_nil _ _ _ _, World.ownsRow_nil _ _ _ _⟩, fun _ => Nat.le_refl _, Below.refl _ _⟩
  case round =>
    obtain ⟨j, dn, M, ko, vo, hj, hMl, rfl, rfl, H, ho, hMd, hB⟩ := hrel
    have hbs := hB.size
    have cm0 := (hB.cell (p := ⟨w.heap.size, 0, none⟩) hO1).trans m0
    have cm1 := (hB.cell (p := ⟨w.heap.size, 1, none⟩) hO1).trans m1
    obtain ⟨⟨ja, jn, jc, rfl⟩, ⟨ia, inn, ic, rfl⟩⟩ := ho.form
    by_cases hlt : j < E.length
    · obtain ⟨p, hp⟩ : ∃ p, E[j]? = some p := ⟨_, List.getElem?_eq_getElem hlt⟩
      obtain ⟨b, off, rfl, hb, f0⟩ := K1.out j p hp
      obtain ⟨b', off', rfl, hb', f1⟩ := V1.out j p hp
      have e0 := (BB.out.cell (p := ⟨b, off + j, none⟩) hb).trans f0
      have e1 := (BB.out.cell (p := ⟨b', off' + j, none⟩) hb').trans f1
      have hpl := hkl p (List.mem_of_getElem? hp)
      have hd : E.drop j = p :: E.drop (j + 1) := by
        obtain ⟨hjl, rfl⟩ := List.getElem?_eq_some_iff.1 hp
        exact List.drop_eq_getElem_cons hjl
      have D := Lib.hid hd
      clear hp hd f0 f1
      obtain ⟨pk, pv⟩ := p
      dsimp only at e0 e1 hpl
      have ce0 := (hB.cell (p := ⟨b, off + j, none⟩) (by show b < O; omega)).trans e0
      cases dn with
      | true =>
        clear hMd
        by_cases hk : pk = k
        · subst hk
          go_wp2
          go_roundw
          case rel =>
            refine ⟨j + 1, true, M, _, _, by omega, by omega, rfl, by go_num, ?_, ho, (fun e => by cases e), hB⟩
            show _ = _
            rw [H.out, D.out]; simp [restE, dropE]
          case measure => simp [intOf]; omega
        · have hk1 : (pk == k) = false := by simpa using hk
          have HK := Lib.hid hk
          go_wp2_with fail
          have hoc := ho
          have bc := hB
          clear ho hB cm0 cm1 ce0 hk
          generalize wr = Wc at hoc bc hbs ⊢
          have hlc := hoc.lt
          have co := hoc.cell0
          obtain ⟨a3, n3, c3, w4, hr0, cw, fw, out4, bst, hst⟩ := key_step hoc.drew pk (by simp; omega)
          have hrun : (Builtin.append_ #[29, 29] 29 #[(.slice ja jn jc), .slice (some ⟨Wc.heap.size, 0, none⟩) 1 1]).run Tryz.prog (Wc.alloc (.cells #[keyV pk] 9)).drew = .ok (.slice a3 n3 c3) w4 := hr0
          clear hr0
          have B4 := Lib.hid (bc.drew.trans bst)
          have O4 := Lib.hid out4
          have dA : ∀ o, Below O W3 (Wc.alloc o).drew := fun o => (bc.alloc (by omega) o).drew
          have coA : ∀ o, (Wc.alloc o).cell? ⟨O, 0, none⟩ = some ((.slice ja jn jc)) := fun o => by rw [World.cell?_alloc_lt _ _ _ (by show O < Wc.heap.size; omega)]; exact co
          have kA := bc.drew
          have kB := bc.drew.trans hst
          clear out4
          refine wp_region_noPanic ?_
          refine wp_region_held_drew (S := (fun w' => w'.cell? ⟨w.heap.size, 0, none⟩ = some (.slice (some ⟨b, off, none⟩) E.length kc) ∧ w'.cell? ⟨b, off + j, none⟩ = some (keyV pk))) (by kernel_rfl) ?_ (fun hHeld => ?_)
          · exact ⟨(kA.cell (p := ⟨w.heap.size, 0, none⟩) hO1).trans m0, (kA.cell (p := ⟨b, off + j, none⟩) (by show b < O; omega)).trans e0⟩
          refine wpAnyH_take (i := 0) (oi := ⟨some 49, _, _, _, _, _⟩) (v := ?_) rfl (by kernel_rfl) (by kernel_rfl) (by kernel_rfl) (fun _ _ _ h => h) (Or.inl ⟨by rfl, ?_⟩) (by assumption) ?_
          rotate_left
          · (intro w hSw; (try dsimp only at hSw); go_simp; try with_reducible rfl)
          try simp only [Act.put, List.setIfInBounds_toArray, List.set_cons_zero, List.set_cons_succ]
          refine wpAnyH_take (i := 2) (oi := ⟨some 51, _, _, _, _, _⟩) (v := ?_) rfl (by kernel_rfl) (by kernel_rfl) (by kernel_rfl) (fun _ _ _ h => h) (Or.inl ⟨by rfl, ?_⟩) (by assumption) ?_
          rotate_left
          · (intro w hSw; (try dsimp only at hSw); go_simp; try with_reducible rfl)
          try simp only [Act.put, List.setIfInBounds_toArray, List.set_cons_zero, List.set_cons_succ]
          refine wpAnyH_take (i := 3) (oi := ⟨some 52, _, _, _, _, _⟩) (v := ?_) rfl (by kernel_rfl) (by kernel_rfl) (by kernel_rfl) (fun _ _ _ h => h) (Or.inl ⟨by rfl, ?_⟩) (by assumption) ?_
          rotate_left
          · (intro w hSw; (try dsimp only at hSw); go_simp; try with_reducible rfl)
          try simp only [Act.put, List.setIfInBounds_toArray, List.set_cons_zero, List.set_cons_succ]
          refine wpAnyH_take (i := 4) (oi := ⟨some 53, _, _, _, _, _⟩) (v := ?_) rfl (by kernel_rfl) (by kernel_rfl) (by kernel_rfl) (fun _ _ _ h => h) (Or.inl ⟨by rfl, ?_⟩) (by assumption) ?_
          rotate_left
          · (intro w hSw; (try dsimp only at hSw); go_simp; try with_reducible rfl)
          try simp only [Act.put, List.setIfInBounds_toArray, List.set_cons_zero, List.set_cons_succ]
          refine wpAnyH_take (i := 5) (oi := ⟨some 54, _, _, _, _, _⟩) (v := ?_) rfl (by kernel_rfl) (by kernel_rfl) (by kernel_rfl) (fun _ _ _ h => h) (Or.inl ⟨by rfl, ?_⟩) (by assumption) ?_
          rotate_left
          · (intro w hSw; (try dsimp only at hSw); go_simp; try with_reducible rfl)
          try simp only [Act.put, List.setIfInBounds_toArray, List.set_cons_zero, List.set_cons_succ]
          refine wpAnyH_take (i := 6) (oi := ⟨some 55, _, _, _, _, _⟩) (v := ?_) rfl (by kernel_rfl) (by kernel_rfl) (by kernel_rfl) (fun _ _ _ h => h) (Or.inl ⟨by rfl, ?_⟩) (by assumption) ?_
          rotate_left
          · (intro w hSw; (try dsimp only at hSw); go_simp; try with_reducible rfl)
          try simp only [Act.put, List.setIfInBounds_toArray, List.set_cons_zero, List.set_cons_succ]
          refine wpAnyH_ready (rs := [1, 7]) (by kernel_rfl) (by simp) ?_
          refine AllReadyH.cons (o := ⟨some 50, _, _, _, _, _⟩) rfl (fun K hK => ?_) (AllReadyH.cons (o := ⟨some 56, _, _, _, _, _⟩) rfl (fun K hK => ?_) AllReadyH.nil)
          go_simp
          refine hK.out _ _ ?_ (fun hHeldX => ?_)
          · exact ⟨(kA.cell (p := ⟨w.heap.size, 0, none⟩) hO1).trans m0, (kA.cell (p := ⟨b, off + j, none⟩) (by show b < O; omega)).trans e0⟩
          clear hK K hHeld
          rename _ => hHeld
          try simp only [Act.put, List.setIfInBounds_toArray, List.set_cons_zero, List.set_cons_succ]
          refine wpAnyH_ready (rs := [7]) (by kernel_rfl) (by simp) ?_
          refine AllReadyH.cons (o := ⟨some 56, _, _, _, _, _⟩) rfl (fun K hK => ?_) AllReadyH.nil
          go_simp
          refine hK.out _ _ ?_ (fun hHeldX => ?_)
          · exact ⟨((dA _).cell (p := ⟨w.heap.size, 0, none⟩) hO1).trans m0, ((dA _).cell (p := ⟨b, off + j, none⟩) (by show b < O; omega)).trans e0⟩
          clear hK K hHeld
          rename _ => hHeld
          try simp only [Act.put, List.setIfInBounds_toArray, List.set_cons_zero, List.set_cons_succ]
          refine wpAnyH_ready (rs := [8]) (by kernel_rfl) (by simp) ?_
          refine AllReadyH.cons (o := ⟨some 57, _, _, _, _, _⟩) rfl (fun K hK => ?_) AllReadyH.nil
          refine step_append_run rfl (.tmp 50) (.tmp 56) 29 rfl _ _ _ _ rfl rfl hrun ?_
          refine hK.out _ _ ?_ (fun hHeldX => ?_)
          · exact ⟨(kB.cell (p := ⟨w.heap.size, 0, none⟩) hO1).trans m0, (kB.cell (p := ⟨b, off + j, none⟩) (by show b < O; omega)).trans e0⟩
          clear hK K hHeld
          rename _ => hHeld
          try simp only [Act.put, List.setIfInBounds_toArray, List.set_cons_zero, List.set_cons_succ]
          refine wpAnyH_take (i := 9) (oi := ⟨some 58, _, _, _, _, _⟩) (v := ?_) rfl (by kernel_rfl) (by kernel_rfl) (by kernel_rfl) (fun _ _ _ h => h) (Or.inl ⟨by rfl, ?_⟩) (by assumption) ?_
          rotate_left
          · (intro w hSw; (try dsimp only at hSw); go_simp; try with_reducible rfl)
          try simp only [Act.put, List.setIfInBounds_toArray, List.set_cons_zero, List.set_cons_succ]
          refine wpAnyH_ready (rs := [10]) (by kernel_rfl) (by simp) ?_
          refine AllReadyH.cons (o := ⟨none, _, _, _, _, _⟩) rfl (fun K hK => ?_) AllReadyH.nil
          go_simp
          refine hK.out _ _ ?_ (fun hHeldX => ?_)
          · exact ⟨(B4.out.cell (p := ⟨w.heap.size, 0, none⟩) hO1).trans m0, (B4.out.cell (p := ⟨b, off + j, none⟩) (by show b < O; omega)).trans e0⟩
          clear hK K hHeld
          rename _ => hHeld
          try simp only [Act.put, List.setIfInBounds_toArray, List.set_cons_zero, List.set_cons_succ]
          refine wpAnyH_done (by kernel_rfl) ?_ _
          refine NoPanic.normal ?_
          rotate_left
          go_simp
          refine hK.out _ _ ?_ (fun hHeldX => ?_)
          · exact ⟨((dA _).cell (p := ⟨w.heap.size, 0, none⟩) hO1).trans m0, ((dA _).cell (p := ⟨b, off + j, none⟩) (by show b < O; omega)).trans e0⟩
          clear hK K hHeld
          rename _ => hHeld
          try simp only [Act.put, List.setIfInBounds_toArray, List.set_cons_zero, List.set_cons_succ]
          refine wpAnyH_ready (rs := [1]) (by kernel_rfl) (by simp) ?_
          refine AllReadyH.cons (o := ⟨some 50, _, _, _, _, _⟩) rfl (fun K hK => ?_) AllReadyH.nil
          go_simp
          refine hK.out _ _ ?_ (fun hHeldX => ?_)
          · exact ⟨((dA _).cell (p := ⟨w.heap.size, 0, none⟩) hO1).trans m0, ((dA _).cell (p := ⟨b, off + j, none⟩) (by show b < O; omega)).trans e0⟩
          clear hK K hHeld
          rename _ => hHeld
          try simp only [Act.put, List.setIfInBounds_toArray, List.set_cons_zero, List.set_cons_succ]
          refine wpAnyH_ready (rs := [8]) (by kernel_rfl) (by simp) ?_
          refine AllReadyH.cons (o := ⟨some 57, _, _, _, _, _⟩) rfl (fun K hK => ?_) AllReadyH.nil
          refine step_append_run rfl (.tmp 50) (.tmp 56) 29 rfl _ _ _ _ rfl rfl hrun ?_
          refine hK.out _ _ ?_ (fun hHeldX => ?_)
          · exact ⟨(kB.cell (p := ⟨w.heap.size, 0, none⟩) hO1).trans m0, (kB.cell (p := ⟨b, off + j, none⟩) (by show b < O; omega)).trans e0⟩
          clear hK K hHeld
          rename _ => hHeld
          try simp only [Act.put, List.setIfInBounds_toArray, List.set_cons_zero, List.set_cons_succ]
          refine wpAnyH_take (i := 9) (oi := ⟨some 58, _, _, _, _, _⟩) (v := ?_) rfl (by kernel_rfl) (by kernel_rfl) (by kernel_rfl) (fun _ _ _ h => h) (Or.inl ⟨by rfl, ?_⟩) (by assumption) ?_
          rotate_left
          · (intro w hSw; (try dsimp only at hSw); go_simp; try with_reducible rfl)
          try simp only [Act.put, List.setIfInBounds_toArray, List.set_cons_zero, List.set_cons_succ]
          refine wpAnyH_ready (rs := [10]) (by kernel_rfl) (by simp) ?_
          refine AllReadyH.cons (o := ⟨none, _, _, _, _, _⟩) rfl (fun K hK => ?_) AllReadyH.nil
          go_simp
          refine hK.out _ _ ?_ (fun hHeldX => ?_)
          · exact ⟨(B4.out.cell (p := ⟨w.heap.size, 0, none⟩) hO1).trans m0, (B4.out.cell (p := ⟨b, off + j, none⟩) (by show b < O; omega)).trans e0⟩
          clear hK K hHeld
          rename _ => hHeld
          try simp only [Act.put, List.setIfInBounds_toArray, List.set_cons_zero, List.set_cons_succ]
          refine wpAnyH_done (by kernel_rfl) ?_ _
          refine NoPanic.normal ?_
          rotate_left
          all_goals
            go_wp2_with fail
            have hoc := O4.out
            have bc := B4.out
            clear O4 B4 hrun dA coA kA kB cw fw bst hst co hlc hHeld
            generalize w4.setCell ⟨O, 0, none⟩ (.slice a3 n3 c3) = Wc at hoc bc ⊢
            have hlc := hoc.lt
            have co := hoc.cell1
            obtain ⟨a5, n5, c5, w4, hr0, cw, fw, out4, bst, hst⟩ := val_step hoc.drew pv (by simp; omega)
            have hrun : (Builtin.append_ #[30, 30] 30 #[(.slice ia inn ic), .slice (some ⟨Wc.heap.size, 0, none⟩) 1 1]).run Tryz.prog (Wc.alloc (.cells #[.int .i64 pv] 3)).drew = .ok (.slice a5 n5 c5) w4 := hr0
            clear hr0
            have B4 := Lib.hid (bc.drew.trans bst)
            have O4 := Lib.hid out4
            have dA : ∀ o, Below O W3 (Wc.alloc o).drew := fun o => (bc.alloc (by omega) o).drew
            have coA : ∀ o, (Wc.alloc o).cell? ⟨O, 1, none⟩ = some ((.slice ia inn ic)) := fun o => by rw [World.cell?_alloc_lt _ _ _ (by show O < Wc.heap.size; omega)]; exact co
            have kA := bc.drew
            have kB := bc.drew.trans hst
            clear out4
            refine wp_region_noPanic ?_
            refine wp_region_held_drew (S := (fun w' => w'.cell? ⟨w.heap.size, 1, none⟩ = some (.slice (some ⟨b', off', none⟩) E.length vc) ∧ w'.cell? ⟨b', off' + j, none⟩ = some (.int .i64 pv))) (by kernel_rfl) ?_ (fun hHeld => ?_)
            · exact ⟨(kA.cell (p := ⟨w.heap.size, 1, none⟩) hO1).trans m1, (kA.cell (p := ⟨b', off' + j, none⟩) (by show b' < O; omega)).trans e1⟩
            refine wpAnyH_take (i := 0) (oi := ⟨some 59, _, _, _, _, _⟩) (v := ?_) rfl (by kernel_rfl) (by kernel_rfl) (by kernel_rfl) (fun _ _ _ h => h) (Or.inl ⟨by rfl, ?_⟩) (by assumption) ?_
            rotate_left
            · (intro w hSw; (try dsimp only at hSw); go_simp; try with_reducible rfl)
            try simp only [Act.put, List.setIfInBounds_toArray, List.set_cons_zero, List.set_cons_succ]
            refine wpAnyH_take (i := 2) (oi := ⟨some 61, _, _, _, _, _⟩) (v := ?_) rfl (by kernel_rfl) (by kernel_rfl) (by kernel_rfl) (fun _ _ _ h => h) (Or.inl ⟨by rfl, ?_⟩) (by assumption) ?_
            rotate_left
            · (intro w hSw; (try dsimp only at hSw); go_simp; try with_reducible rfl)
            try simp only [Act.put, List.setIfInBounds_toArray, List.set_cons_zero, List.set_cons_succ]
            refine wpAnyH_take (i := 3) (oi := ⟨some 62, _, _, _, _, _⟩) (v := ?_) rfl (by kernel_rfl) (by kernel_rfl) (by kernel_rfl) (fun _ _ _ h => h) (Or.inl ⟨by rfl, ?_⟩) (by assumption) ?_
            rotate_left
            · (intro w hSw; (try dsimp only at hSw); go_simp; try with_reducible rfl)
            try simp only [Act.put, List.setIfInBounds_toArray, List.set_cons_zero, List.set_cons_succ]
            refine wpAnyH_take (i := 4) (oi := ⟨some 63, _, _, _, _, _⟩) (v := ?_) rfl (by kernel_rfl) (by kernel_rfl) (by kernel_rfl) (fun _ _ _ h => h) (Or.inl ⟨by rfl, ?_⟩) (by assumption) ?_
            rotate_left
            · (intro w hSw; (try dsimp only at hSw); go_simp; try with_reducible rfl)
            try simp only [Act.put, List.setIfInBounds_toArray, List.set_cons_zero, List.set_cons_succ]
            refine wpAnyH_take (i := 5) (oi := ⟨some 64, _, _, _, _, _⟩) (v := ?_) rfl (by kernel_rfl) (by kernel_rfl) (by kernel_rfl) (fun _ _ _ h => h) (Or.inl ⟨by rfl, ?_⟩) (by assumption) ?_
            rotate_left
            · (intro w hSw; (try dsimp only at hSw); go_simp; try with_reducible rfl)
            try simp only [Act.put, List.setIfInBounds_toArray, List.set_cons_zero, List.set_cons_succ]
            refine wpAnyH_take (i := 6) (oi := ⟨some 65, _, _, _, _, _⟩) (v := ?_) rfl (by kernel_rfl) (by kernel_rfl) (by kernel_rfl) (fun _ _ _ h => h) (Or.inl ⟨by rfl, ?_⟩) (by assumption) ?_
            rotate_left
            · (intro w hSw; (try dsimp only at hSw); go_simp; try with_reducible rfl)
            try simp only [Act.put, List.setIfInBounds_toArray, List.set_cons_zero, List.set_cons_succ]
            refine wpAnyH_ready (rs := [1, 7]) (by kernel_rfl) (by simp) ?_
            refine AllReadyH.cons (o := ⟨some 60, _, _, _, _, _⟩) rfl (fun K hK => ?_) (AllReadyH.cons (o := ⟨some 66, _, _, _, _, _⟩) rfl (fun K hK => ?_) AllReadyH.nil)
            go_simp
            refine hK.out _ _ ?_ (fun hHeldX => ?_)
            · exact ⟨(kA.cell (p := ⟨w.heap.size, 1, none⟩) hO1).trans m1, (kA.cell (p := ⟨b', off' + j, none⟩) (by show b' < O; omega)).trans e1⟩
            clear hK K hHeld
            rename _ => hHeld
            try simp only [Act.put, List.setIfInBounds_toArray, List.set_cons_zero, List.set_cons_succ]
            refine wpAnyH_ready (rs := [7]) (by kernel_rfl) (by simp) ?_
            refine AllReadyH.cons (o := ⟨some 66, _, _, _, _, _⟩) rfl (fun K hK => ?_) AllReadyH.nil
            go_simp
            refine hK.out _ _ ?_ (fun hHeldX => ?_)
            · exact ⟨((dA _).cell (p := ⟨w.heap.size, 1, none⟩) hO1).trans m1, ((dA _).cell (p := ⟨b', off' + j, none⟩) (by show b' < O; omega)).trans e1⟩
            clear hK K hHeld
            rename _ => hHeld
            try simp only [Act.put, List.setIfInBounds_toArray, List.set_cons_zero, List.set_cons_succ]
            refine wpAnyH_ready (rs := [8]) (by kernel_rfl) (by simp) ?_
            refine AllReadyH.cons (o := ⟨some 67, _, _, _, _, _⟩) rfl (fun K hK => ?_) AllReadyH.nil
            refine step_append_run rfl (.tmp 60) (.tmp 66) 30 rfl _ _ _ _ rfl rfl hrun ?_
            refine hK.out _ _ ?_ (fun hHeldX => ?_)
            · exact ⟨(kB.cell (p := ⟨w.heap.size, 1, none⟩) hO1).trans m1, (kB.cell (p := ⟨b', off' + j, none⟩) (by show b' < O; omega)).trans e1⟩
            clear hK K hHeld
            rename _ => hHeld
            try simp only [Act.put, List.setIfInBounds_toArray, List.set_cons_zero, List.set_cons_succ]
            refine wpAnyH_take (i := 9) (oi := ⟨some 68, _, _, _, _, _⟩) (v := ?_) rfl (by kernel_rfl) (by kernel_rfl) (by kernel_rfl) (fun _ _ _ h => h) (Or.inl ⟨by rfl, ?_⟩) (by assumption) ?_
            rotate_left
            · (intro w hSw; (try dsimp only at hSw); go_simp; try with_reducible rfl)
            try simp only [Act.put, List.setIfInBounds_toArray, List.set_cons_zero, List.set_cons_succ]
            refine wpAnyH_ready (rs := [10]) (by kernel_rfl) (by simp) ?_
            refine AllReadyH.cons (o := ⟨none, _, _, _, _, _⟩) rfl (fun K hK => ?_) AllReadyH.nil
            go_simp
            refine hK.out _ _ ?_ (fun hHeldX => ?_)
            · exact ⟨(B4.out.cell (p := ⟨w.heap.size, 1, none⟩) hO1).trans m1, (B4.out.cell (p := ⟨b', off' + j, none⟩) (by show b' < O; omega)).trans e1⟩
            clear hK K hHeld
            rename _ => hHeld
            try simp only [Act.put, List.setIfInBounds_toArray, List.set_cons_zero, List.set_cons_succ]
            refine wpAnyH_done (by kernel_rfl) ?_ _
            refine NoPanic.normal ?_
            rotate_left
            go_simp
            refine hK.out _ _ ?_ (fun hHeldX => ?_)
            · exact ⟨((dA _).cell (p := ⟨w.heap.size, 1, none⟩) hO1).trans m1, ((dA _).cell (p := ⟨b', off' + j, none⟩) (by show b' < O; omega)).trans e1⟩
            clear hK K hHeld
            rename _ => hHeld
            try simp only [Act.put, List.setIfInBounds_toArray, List.set_cons_zero, List.set_cons_succ]
            refine wpAnyH_ready (rs := [1]) (by kernel_rfl) (by simp) ?_
            refine AllReadyH.cons (o := ⟨some 60, _, _, _, _, _⟩) rfl (fun K hK => ?_) AllReadyH.nil
            go_simp
            refine hK.out _ _ ?_ (fun hHeldX => ?_)
            · exact ⟨((dA _).cell (p := ⟨w.heap.size, 1, none⟩) hO1).trans m1, ((dA _).cell (p := ⟨b', off' + j, none⟩) (by show b' < O; omega)).trans e1⟩
            clear hK K hHeld
            rename _ => hHeld
            try simp only [Act.put, List.setIfInBounds_toArray, List.set_cons_zero, List.set_cons_succ]
            refine wpAnyH_ready (rs := [8]) (by kernel_rfl) (by simp) ?_
            refine AllReadyH.cons (o := ⟨some 67, _, _, _, _, _⟩) rfl (fun K hK => ?_) AllReadyH.nil
            refine step_append_run rfl (.tmp 60) (.tmp 66) 30 rfl _ _ _ _ rfl rfl hrun ?_
            refine hK.out _ _ ?_ (fun hHeldX => ?_)
            · exact ⟨(kB.cell (p := ⟨w.heap.size, 1, none⟩) hO1).trans m1, (kB.cell (p := ⟨b', off' + j, none⟩) (by show b' < O; omega)).trans e1⟩
            clear hK K hHeld
            rename _ => hHeld
            try simp only [Act.put, List.setIfInBounds_toArray, List.set_cons_zero, List.set_cons_succ]
            refine wpAnyH_take (i := 9) (oi := ⟨some 68, _, _, _, _, _⟩) (v := ?_) rfl (by kernel_rfl) (by kernel_rfl) (by kernel_rfl) (fun _ _ _ h => h) (Or.inl ⟨by rfl, ?_⟩) (by assumption) ?_
            rotate_left
            · (intro w hSw; (try dsimp only at hSw); go_simp; try with_reducible rfl)
            try simp only [Act.put, List.setIfInBounds_toArray, List.set_cons_zero, List.set_cons_succ]
            refine wpAnyH_ready (rs := [10]) (by kernel_rfl) (by simp) ?_
            refine AllReadyH.cons (o := ⟨none, _, _, _, _, _⟩) rfl (fun K hK => ?_) AllReadyH.nil
            go_simp
            refine hK.out _ _ ?_ (fun hHeldX => ?_)
            · exact ⟨(B4.out.cell (p := ⟨w.heap.size, 1, none⟩) hO1).trans m1, (B4.out.cell (p := ⟨b', off' + j, none⟩) (by show b' < O; omega)).trans e1⟩
            clear hK K hHeld
            rename _ => hHeld
            try simp only [Act.put, List.setIfInBounds_toArray, List.set_cons_zero, List.set_cons_succ]
            refine wpAnyH_done (by kernel_rfl) ?_ _
            refine NoPanic.normal ?_
            rotate_left
            all_goals
              go_wp2
              have hoc := O4.out
              have bc := B4.out
              clear O4 B4 hrun dA coA kA kB cw fw bst hst co hlc hHeld
              generalize w4.setCell ⟨O, 1, none⟩ (.slice a5 n5 c5) = Wc at hoc bc ⊢
              go_roundw
              case rel =>
                refine ⟨j + 1, true, M ++ [(pk, pv)], _, _, by omega, by simp; omega, rfl, by go_num, ?_, by simpa using hoc, (fun e => by cases e), bc⟩
                show _ = _
                rw [H.out, D.out]; simp [restE, dropE, HK.out]
              case measure => simp [intOf]; omega
      | false =>
        have hMl := hMd rfl
        clear hMd
        cases hbl : bl pk k
        · have hles := fun W => ref_Less pk k W hpl
          rw [hbl] at hles
          have HBL := Lib.hid hbl
          clear hbl
          go_wp2_with fail
          refine (hles _).mono ?_
          rintro e w2 ⟨rfl, hB2⟩
          have hoc := ho.below hB2
          have bc := hB.trans (hB2.mono (by have := ho.lt; omega))
          clear ho hB cm0 cm1 ce0 hB2 hles
          generalize w2 = Wc at hoc bc ⊢
          have hlc := hoc.lt
          have o0 := hoc.cell0
          obtain ⟨a6, n6, c6, w6, hrunk, cwk, fwk, outk, bstk, _⟩ := key_step hoc k (by simp; omega)
          have o1 := outk.cell1
          have hz6 : (w6.setCell ⟨O, 0, none⟩ (.slice a6 n6 c6)).heap.size = w6.heap.size := by simp [World.setCell]
          obtain ⟨a7, n7, c7, w7, hrunv, cwv, fwv, outv, bstv, _⟩ := val_step outk x (by simp; omega)
          rw [hz6] at hrunv
          have bc7 := bc.trans (bstk.trans bstv)
          have cm0 := (bc7.cell (p := ⟨w.heap.size, 0, none⟩) hO1).trans m0
          have ce0 := (bc7.cell (p := ⟨b, off + j, none⟩) (by show b < O; omega)).trans e0
          have OV := Lib.hid outv
          have B7 := Lib.hid bc7
          clear outk outv bstk bstv bc7
          by_cases hk : pk = k
          · subst hk
            go_wp2_with (first | (with_reducible show wpList _ _ _ (⟨some 34, _, _, _, _, _⟩ :: _) _ _; refine wpList_append_run (o := ⟨some 34, _, _, _, _, _⟩) rfl (.tmp 31) (.tmp 33) 29 rfl (.slice ja jn jc) (.slice (some ⟨Wc.heap.size, 0, none⟩) 1 1) (.slice a6 n6 c6) w6 rfl rfl hrunk ?_) | (with_reducible show wpList _ _ _ (⟨some 40, _, _, _, _, _⟩ :: _) _ _; refine wpList_append_run (o := ⟨some 40, _, _, _, _, _⟩) rfl (.tmp 37) (.tmp 39) 30 rfl (.slice ia inn ic) (.slice (some ⟨w6.heap.size, 0, none⟩) 1 1) (.slice a7 n7 c7) w7 rfl rfl hrunv ?_))
            go_roundw
            case rel =>
              refine ⟨j + 1, true, M ++ [(pk, x)], _, _, by omega, by simp; omega, rfl, by go_num, ?_, by simpa using OV.out, (fun e => by cases e), B7.out⟩
              show _ = _
              rw [H.out, D.out]; simp [restE, putE, dropE, bl_irrefl]
            case measure => simp [intOf]; omega
          · have hk1 : (pk == k) = false := by simpa using hk
            have HK := Lib.hid hk
            clear hk
            go_wp2_with (first | (with_reducible show wpList _ _ _ (⟨some 34, _, _, _, _, _⟩ :: _) _ _; refine wpList_append_run (o := ⟨some 34, _, _, _, _, _⟩) rfl (.tmp 31) (.tmp 33) 29 rfl (.slice ja jn jc) (.slice (some ⟨Wc.heap.size, 0, none⟩) 1 1) (.slice a6 n6 c6) w6 rfl rfl hrunk ?_) | (with_reducible show wpList _ _ _ (⟨some 40, _, _, _, _, _⟩ :: _) _ _; refine wpList_append_run (o := ⟨some 40, _, _, _, _, _⟩) rfl (.tmp 37) (.tmp 39) 30 rfl (.slice ia inn ic) (.slice (some ⟨w6.heap.size, 0, none⟩) 1 1) (.slice a7 n7 c7) w7 rfl rfl hrunv ?_))
            have hoc := OV.out
            have bc := B7.out
            clear OV B7 cm0 ce0 cwk fwk cwv fwv hrunk hrunv o0 o1 hz6 hlc
            generalize w7.setCell ⟨O, 1, none⟩ (.slice a7 n7 c7) = Wc at hoc bc ⊢
            have hlc := hoc.lt
            have co := hoc.cell0
            obtain ⟨a3, n3, c3, w4, hr0, cw, fw, out4, bst, hst⟩ := key_step hoc.drew pk (by simp; omega)
            have hrun : (Builtin.append_ #[29, 29] 29 #[(.slice a6 n6 c6), .slice (some ⟨Wc.heap.size, 0, none⟩) 1 1]).run Tryz.prog (Wc.alloc (.cells #[keyV pk] 9)).drew = .ok (.slice a3 n3 c3) w4 := hr0
            clear hr0
            have B4 := Lib.hid (bc.drew.trans bst)
            have O4 := Lib.hid out4
            have dA : ∀ o, Below O W3 (Wc.alloc o).drew := fun o => (bc.alloc (by omega) o).drew
            have coA : ∀ o, (Wc.alloc o).cell? ⟨O, 0, none⟩ = some ((.slice a6 n6 c6)) := fun o => by rw [World.cell?_alloc_lt _ _ _ (by show O < Wc.heap.size; omega)]; exact co
            have kA := bc.drew
            have kB := bc.drew.trans hst
            clear out4
            refine wp_region_noPanic ?_
            refine wp_region_held_drew (S := (fun w' => w'.cell? ⟨w.heap.size, 0, none⟩ = some (.slice (some ⟨b, off, none⟩) E.length kc) ∧ w'.cell? ⟨b, off + j, none⟩ = some (keyV pk))) (by kernel_rfl) ?_ (fun hHeld => ?_)
            · exact ⟨(kA.cell (p := ⟨w.heap.size, 0, none⟩) hO1).trans m0, (kA.cell (p := ⟨b, off + j, none⟩) (by show b < O; omega)).trans e0⟩
            refine wpAnyH_take (i := 0) (oi := ⟨some 49, _, _, _, _, _⟩) (v := ?_) rfl (by kernel_rfl) (by kernel_rfl) (by kernel_rfl) (fun _ _ _ h => h) (Or.inl ⟨by rfl, ?_⟩) (by assumption) ?_
            rotate_left
            · (intro w hSw; (try dsimp only at hSw); go_simp; try with_reducible rfl)
            try simp only [Act.put, List.setIfInBounds_toArray, List.set_cons_zero, List.set_cons_succ]
            refine wpAnyH_take (i := 2) (oi := ⟨some 51, _, _, _, _, _⟩) (v := ?_) rfl (by kernel_rfl) (by kernel_rfl) (by kernel_rfl) (fun _ _ _ h => h) (Or.inl ⟨by rfl, ?_⟩) (by assumption) ?_
            rotate_left
            · (intro w hSw; (try dsimp only at hSw); go_simp; try with_reducible rfl)
            try simp only [Act.put, List.setIfInBounds_toArray, List.set_cons_zero, List.set_cons_succ]
            refine wpAnyH_take (i := 3) (oi := ⟨some 52, _, _, _, _, _⟩) (v := ?_) rfl (by kernel_rfl) (by kernel_rfl) (by kernel_rfl) (fun _ _ _ h => h) (Or.inl ⟨by rfl, ?_⟩) (by assumption) ?_
            rotate_left
            · (intro w hSw; (try dsimp only at hSw); go_simp; try with_reducible rfl)
            try simp only [Act.put, List.setIfInBounds_toArray, List.set_cons_zero, List.set_cons_succ]
            refine wpAnyH_take (i := 4) (oi := ⟨some 53, _, _, _, _, _⟩) (v := ?_) rfl (by kernel_rfl) (by kernel_rfl) (by kernel_rfl) (fun _ _ _ h => h) (Or.inl ⟨by rfl, ?_⟩) (by assumption) ?_
            rotate_left
            · (intro w hSw; (try dsimp only at hSw); go_simp; try with_reducible rfl)
            try simp only [Act.put, List.setIfInBounds_toArray, List.set_cons_zero, List.set_cons_succ]
            refine wpAnyH_take (i := 5) (oi := ⟨some 54, _, _, _, _, _⟩) (v := ?_) rfl (by kernel_rfl) (by kernel_rfl) (by kernel_rfl) (fun _ _ _ h => h) (Or.inl ⟨by rfl, ?_⟩) (by assumption) ?_
            rotate_left
            · (intro w hSw; (try dsimp only at hSw); go_simp; try with_reducible rfl)
            try simp only [Act.put, List.setIfInBounds_toArray, List.set_cons_zero, List.set_cons_succ]
            refine wpAnyH_take (i := 6) (oi := ⟨some 55, _, _, _, _, _⟩) (v := ?_) rfl (by kernel_rfl) (by kernel_rfl) (by kernel_rfl) (fun _ _ _ h => h) (Or.inl ⟨by rfl, ?_⟩) (by assumption) ?_
            rotate_left
            · (intro w hSw; (try dsimp only at hSw); go_simp; try with_reducible rfl)
            try simp only [Act.put, List.setIfInBounds_toArray, List.set_cons_zero, List.set_cons_succ]
            refine wpAnyH_ready (rs := [1, 7]) (by kernel_rfl) (by simp) ?_
            refine AllReadyH.cons (o := ⟨some 50, _, _, _, _, _⟩) rfl (fun K hK => ?_) (AllReadyH.cons (o := ⟨some 56, _, _, _, _, _⟩) rfl (fun K hK => ?_) AllReadyH.nil)
            go_simp
            refine hK.out _ _ ?_ (fun hHeldX => ?_)
            · exact ⟨(kA.cell (p := ⟨w.heap.size, 0, none⟩) hO1).trans m0, (kA.cell (p := ⟨b, off + j, none⟩) (by show b < O; omega)).trans e0⟩
            clear hK K hHeld
            rename _ => hHeld
            try simp only [Act.put, List.setIfInBounds_toArray, List.set_cons_zero, List.set_cons_succ]
            refine wpAnyH_ready (rs := [7]) (by kernel_rfl) (by simp) ?_
            refine AllReadyH.cons (o := ⟨some 56, _, _, _, _, _⟩) rfl (fun K hK => ?_) AllReadyH.nil
            go_simp
            refine hK.out _ _ ?_ (fun hHeldX => ?_)
            · exact ⟨((dA _).cell (p := ⟨w.heap.size, 0, none⟩) hO1).trans m0, ((dA _).cell (p := ⟨b, off + j, none⟩) (by show b < O; omega)).trans e0⟩
            clear hK K hHeld
            rename _ => hHeld
            try simp only [Act.put, List.setIfInBounds_toArray, List.set_cons_zero, List.set_cons_succ]
            refine wpAnyH_ready (rs := [8]) (by kernel_rfl) (by simp) ?_
            refine AllReadyH.cons (o := ⟨some 57, _, _, _, _, _⟩) rfl (fun K hK => ?_) AllReadyH.nil
            refine step_append_run rfl (.tmp 50) (.tmp 56) 29 rfl _ _ _ _ rfl rfl hrun ?_
            refine hK.out _ _ ?_ (fun hHeldX => ?_)
            · exact ⟨(kB.cell (p := ⟨w.heap.size, 0, none⟩) hO1).trans m0, (kB.cell (p := ⟨b, off + j, none⟩) (by show b < O; omega)).trans e0⟩
            clear hK K hHeld
            rename _ => hHeld
            try simp only [Act.put, List.setIfInBounds_toArray, List.set_cons_zero, List.set_cons_succ]
            refine wpAnyH_take (i := 9) (oi := ⟨some 58, _, _, _, _, _⟩) (v := ?_) rfl (by kernel_rfl) (by kernel_rfl) (by kernel_rfl) (fun _ _ _ h => h) (Or.inl ⟨by rfl, ?_⟩) (by assumption) ?_
            rotate_left
            · (intro w hSw; (try dsimp only at hSw); go_simp; try with_reducible rfl)
            try simp only [Act.put, List.setIfInBounds_toArray, List.set_cons_zero, List.set_cons_succ]
            refine wpAnyH_ready (rs := [10]) (by kernel_rfl) (by simp) ?_
            refine AllReadyH.cons (o := ⟨none, _, _, _, _, _⟩) rfl (fun K hK => ?_) AllReadyH.nil
            go_simp
            refine hK.out _ _ ?_ (fun hHeldX => ?_)
            · exact ⟨(B4.out.cell (p := ⟨w.heap.size, 0, none⟩) hO1).trans m0, (B4.out.cell (p := ⟨b, off + j, none⟩) (by show b < O; omega)).trans e0⟩
            clear hK K hHeld
            rename _ => hHeld
            try simp only [Act.put, List.setIfInBounds_toArray, List.set_cons_zero, List.set_cons_succ]
            refine wpAnyH_done (by kernel_rfl) ?_ _
            refine NoPanic.normal ?_
            rotate_left
            go_simp
            refine hK.out _ _ ?_ (fun hHeldX => ?_)
            · exact ⟨((dA _).cell (p := ⟨w.heap.size, 0, none⟩) hO1).trans m0, ((dA _).cell (p := ⟨b, off + j, none⟩) (by show b < O; omega)).trans e0⟩
            clear hK K hHeld
            rename _ => hHeld
            try simp only [Act.put, List.setIfInBounds_toArray, List.set_cons_zero, List.set_cons_succ]
            refine wpAnyH_ready (rs := [1]) (by kernel_rfl) (by simp) ?_
            refine AllReadyH.cons (o := ⟨some 50, _, _, _, _, _⟩) rfl (fun K hK => ?_) AllReadyH.nil
            go_simp
            refine hK.out _ _ ?_ (fun hHeldX => ?_)
            · exact ⟨((dA _).cell (p := ⟨w.heap.size, 0, none⟩) hO1).trans m0, ((dA _).cell (p := ⟨b, off + j, none⟩) (by show b < O; omega)).trans e0⟩
            clear hK K hHeld
            rename _ => hHeld
            try simp only [Act.put, List.setIfInBounds_toArray, List.set_cons_zero, List.set_cons_succ]
            refine wpAnyH_ready (rs := [8]) (by kernel_rfl) (by simp) ?_
            refine AllReadyH.cons (o := ⟨some 57, _, _, _, _, _⟩) rfl (fun K hK => ?_) AllReadyH.nil
            refine step_append_run rfl (.tmp 50) (.tmp 56) 29 rfl _ _ _ _ rfl rfl hrun ?_
            refine hK.out _ _ ?_ (fun hHeldX => ?_)
            · exact ⟨(kB.cell (p := ⟨w.heap.size, 0, none⟩) hO1).trans m0, (kB.cell (p := ⟨b, off + j, none⟩) (by show b < O; omega)).trans e0⟩
            clear hK K hHeld
            rename _ => hHeld
            try simp only [Act.put, List.setIfInBounds_toArray, List.set_cons_zero, List.set_cons_succ]
            refine wpAnyH_take (i := 9) (oi := ⟨some 58, _, _, _, _, _⟩) (v := ?_) rfl (by kernel_rfl) (by kernel_rfl) (by kernel_rfl) (fun _ _ _ h => h) (Or.inl ⟨by rfl, ?_⟩) (by assumption) ?_
            rotate_left
            · (intro w hSw; (try dsimp only at hSw); go_simp; try with_reducible rfl)
            try simp only [Act.put, List.setIfInBounds_toArray, List.set_cons_zero, List.set_cons_succ]
            refine wpAnyH_ready (rs := [10]) (by kernel_rfl) (by simp) ?_
            refine AllReadyH.cons (o := ⟨none, _, _, _, _, _⟩) rfl (fun K hK => ?_) AllReadyH.nil
            go_simp
            refine hK.out _ _ ?_ (fun hHeldX => ?_)
            · exact ⟨(B4.out.cell (p := ⟨w.heap.size, 0, none⟩) hO1).trans m0, (B4.out.cell (p := ⟨b, off + j, none⟩) (by show b < O; omega)).trans e0⟩
            clear hK K hHeld
            rename _ => hHeld
            try simp only [Act.put, List.setIfInBounds_toArray, List.set_cons_zero, List.set_cons_succ]
            refine wpAnyH_done (by kernel_rfl) ?_ _
            refine NoPanic.normal ?_
            rotate_left
            all_goals
              go_wp2_with fail
              have hoc := O4.out
              have bc := B4.out
              clear O4 B4 hrun dA coA kA kB cw fw bst hst co hlc hHeld
              generalize w4.setCell ⟨O, 0, none⟩ (.slice a3 n3 c3) = Wc at hoc bc ⊢
              have hlc := hoc.lt
              have co := hoc.cell1
              obtain ⟨a5, n5, c5, w4, hr0, cw, fw, out4, bst, hst⟩ := val_step hoc.drew pv (by simp; omega)
              have hrun : (Builtin.append_ #[30, 30] 30 #[(.slice a7 n7 c7), .slice (some ⟨Wc.heap.size, 0, none⟩) 1 1]).run Tryz.prog (Wc.alloc (.cells #[.int .i64 pv] 3)).drew = .ok (.slice a5 n5 c5) w4 := hr0
              clear hr0
              have B4 := Lib.hid (bc.drew.trans bst)
              have O4 := Lib.hid out4
              have dA : ∀ o, Below O W3 (Wc.alloc o).drew := fun o => (bc.alloc (by omega) o).drew
              have coA : ∀ o, (Wc.alloc o).cell? ⟨O, 1, none⟩ = some ((.slice a7 n7 c7)) := fun o => by rw [World.cell?_alloc_lt _ _ _ (by show O < Wc.heap.size; omega)]; exact co
              have kA := bc.drew
              have kB := bc.drew.trans hst
              clear out4
              refine wp_region_noPanic ?_
              refine wp_region_held_drew (S := (fun w' => w'.cell? ⟨w.heap.size, 1, none⟩ = some (.slice (some ⟨b', off', none⟩) E.length vc) ∧ w'.cell? ⟨b', off' + j, none⟩ = some (.int .i64 pv))) (by kernel_rfl) ?_ (fun hHeld => ?_)
              · exact ⟨(kA.cell (p := ⟨w.heap.size, 1, none⟩) hO1).trans m1, (kA.cell (p := ⟨b', off' + j, none⟩) (by show b' < O; omega)).trans e1⟩
              refine wpAnyH_take (i := 0) (oi := ⟨some 59, _, _, _, _, _⟩) (v := ?_) rfl (by kernel_rfl) (by kernel_rfl) (by kernel_rfl) (fun _ _ _ h => h) (Or.inl ⟨by rfl, ?_⟩) (by assumption) ?_
              rotate_left
              · (intro w hSw; (try dsimp only at hSw); go_simp; try with_reducible rfl)
              try simp only [Act.put, List.setIfInBounds_toArray, List.set_cons_zero, List.set_cons_succ]
              refine wpAnyH_take (i := 2) (oi := ⟨some 61, _, _, _, _, _⟩) (v := ?_) rfl (by kernel_rfl) (by kernel_rfl) (by kernel_rfl) (fun _ _ _ h => h) (Or.inl ⟨by rfl, ?_⟩) (by assumption) ?_
              rotate_left
              · (intro w hSw; (try dsimp only at hSw); go_simp; try with_reducible rfl)
              try simp only [Act.put, List.setIfInBounds_toArray, List.set_cons_zero, List.set_cons_succ]
              refine wpAnyH_take (i := 3) (oi := ⟨some 62, _, _, _, _, _⟩) (v := ?_) rfl (by kernel_rfl) (by kernel_rfl) (by kernel_rfl) (fun _ _ _ h => h) (Or.inl ⟨by rfl, ?_⟩) (by assumption) ?_
              rotate_left
              · (intro w hSw; (try dsimp only at hSw); go_simp; try with_reducible rfl)
              try simp only [Act.put, List.setIfInBounds_toArray, List.set_cons_zero, List.set_cons_succ]
              refine wpAnyH_take (i := 4) (oi := ⟨some 63, _, _, _, _, _⟩) (v := ?_) rfl (by kernel_rfl) (by kernel_rfl) (by kernel_rfl) (fun _ _ _ h => h) (Or.inl ⟨by rfl, ?_⟩) (by assumption) ?_
              rotate_left
              · (intro w hSw; (try dsimp only at hSw); go_simp; try with_reducible rfl)
              try simp only [Act.put, List.setIfInBounds_toArray, List.set_cons_zero, List.set_cons_succ]
              refine wpAnyH_take (i := 5) (oi := ⟨some 64, _, _, _, _, _⟩) (v := ?_) rfl (by kernel_rfl) (by kernel_rfl) (by kernel_rfl) (fun _ _ _ h => h) (Or.inl ⟨by rfl, ?_⟩) (by assumption) ?_
              rotate_left
              · (intro w hSw; (try dsimp only at hSw); go_simp; try with_reducible rfl)
              try simp only [Act.put, List.setIfInBounds_toArray, List.set_cons_zero, List.set_cons_succ]
              refine wpAnyH_take (i := 6) (oi := ⟨some 65, _, _, _, _, _⟩) (v := ?_) rfl (by kernel_rfl) (by kernel_rfl) (by kernel_rfl) (fun _ _ _ h => h) (Or.inl ⟨by rfl, ?_⟩) (by assumption) ?_
              rotate_left
              · (intro w hSw; (try dsimp only at hSw); go_simp; try with_reducible rfl)
              try simp only [Act.put, List.setIfInBounds_toArray, List.set_cons_zero, List.set_cons_succ]
              refine wpAnyH_ready (rs := [1, 7]) (by kernel_rfl) (by simp) ?_
              refine AllReadyH.cons (o := ⟨some 60, _, _, _, _, _⟩) rfl (fun K hK => ?_) (AllReadyH.cons (o := ⟨some 66, _, _, _, _, _⟩) rfl (fun K hK => ?_) AllReadyH.nil)
              go_simp
              refine hK.out _ _ ?_ (fun hHeldX => ?_)
              · exact ⟨(kA.cell (p := ⟨w.heap.size, 1, none⟩) hO1).trans m1, (kA.cell (p := ⟨b', off' + j, none⟩) (by show b' < O; omega)).trans e1⟩
              clear hK K hHeld
              rename _ => hHeld
              try simp only [Act.put, List.setIfInBounds_toArray, List.set_cons_zero, List.set_cons_succ]
              refine wpAnyH_ready (rs := [7]) (by kernel_rfl) (by simp) ?_
              refine AllReadyH.cons (o := ⟨some 66, _, _, _, _, _⟩) rfl (fun K hK => ?_) AllReadyH.nil
              go_simp
              refine hK.out _ _ ?_ (fun hHeldX => ?_)
              · exact ⟨((dA _).cell (p := ⟨w.heap.size, 1, none⟩) hO1).trans m1, ((dA _).cell (p := ⟨b', off' + j, none⟩) (by show b' < O; omega)).trans e1⟩
              clear hK K hHeld
              rename _ => hHeld
              try simp only [Act.put, List.setIfInBounds_toArray, List.set_cons_zero, List.set_cons_succ]
              refine wpAnyH_ready (rs := [8]) (by kernel_rfl) (by simp) ?_
              refine AllReadyH.cons (o := ⟨some 67, _, _, _, _, _⟩) rfl (fun K hK => ?_) AllReadyH.nil
              refine step_append_run rfl (.tmp 60) (.tmp 66) 30 rfl _ _ _ _ rfl rfl hrun ?_
              refine hK.out _ _ ?_ (fun hHeldX => ?_)
              · exact ⟨(kB.cell (p := ⟨w.heap.size, 1, none⟩) hO1).trans m1, (kB.cell (p := ⟨b', off' + j, none⟩) (by show b' < O; omega)).trans e1⟩
              clear hK K hHeld
              rename _ => hHeld
              try simp only [Act.put, List.setIfInBounds_toArray, List.set_cons_zero, List.set_cons_succ]
              refine wpAnyH_take (i := 9) (oi := ⟨some 68, _, _, _, _, _⟩) (v := ?_) rfl (by kernel_rfl) (by kernel_rfl) (by kernel_rfl) (fun _ _ _ h => h) (Or.inl ⟨by rfl, ?_⟩) (by assumption) ?_
              rotate_left
              · (intro w hSw; (try dsimp only at hSw); go_simp; try with_reducible rfl)
              try simp only [Act.put, List.setIfInBounds_toArray, List.set_cons_zero, List.set_cons_succ]
              refine wpAnyH_ready (rs := [10]) (by kernel_rfl) (by simp) ?_
              refine AllReadyH.cons (o := ⟨none, _, _, _, _, _⟩) rfl (fun K hK => ?_) AllReadyH.nil
              go_simp
              refine hK.out _ _ ?_ (fun hHeldX => ?_)
              · exact ⟨(B4.out.cell (p := ⟨w.heap.size, 1, none⟩) hO1).trans m1, (B4.out.cell (p := ⟨b', off' + j, none⟩) (by show b' < O; omega)).trans e1⟩
              clear hK K hHeld
              rename _ => hHeld
              try simp only [Act.put, List.setIfInBounds_toArray, List.set_cons_zero, List.set_cons_succ]
              refine wpAnyH_done (by kernel_rfl) ?_ _
              refine NoPanic.normal ?_
              rotate_left
              go_simp
              refine hK.out _ _ ?_ (fun hHeldX => ?_)
              · exact ⟨((dA _).cell (p := ⟨w.heap.size, 1, none⟩) hO1).trans m1, ((dA _).cell (p := ⟨b', off' + j, none⟩) (by show b' < O; omega)).trans e1⟩
              clear hK K hHeld
              rename _ => hHeld
              try simp only [Act.put, List.setIfInBounds_toArray, List.set_cons_zero, List.set_cons_succ]
              refine wpAnyH_ready (rs := [1]) (by kernel_rfl) (by simp) ?_
              refine AllReadyH.cons (o := ⟨some 60, _, _, _, _, _⟩) rfl (fun K hK => ?_) AllReadyH.nil
              go_simp
              refine hK.out _ _ ?_ (fun hHeldX => ?_)
              · exact ⟨((dA _).cell (p := ⟨w.heap.size, 1, none⟩) hO1).trans m1, ((dA _).cell (p := ⟨b', off' + j, none⟩) (by show b' < O; omega)).trans e1⟩
              clear hK K hHeld
              rename _ => hHeld
              try simp only [Act.put, List.setIfInBounds_toArray, List.set_cons_zero, List.set_cons_succ]
              refine wpAnyH_ready (rs := [8]) (by kernel_rfl) (by simp) ?_
              refine AllReadyH.cons (o := ⟨some 67, _, _, _, _, _⟩) rfl (fun K hK => ?_) AllReadyH.nil
              refine step_append_run rfl (.tmp 60) (.tmp 66) 30 rfl _ _ _ _ rfl rfl hrun ?_
              refine hK.out _ _ ?_ (fun hHeldX => ?_)
              · exact ⟨(kB.cell (p := ⟨w.heap.size, 1, none⟩) hO1).trans m1, (kB.cell (p := ⟨b', off' + j, none⟩) (by show b' < O; omega)).trans e1⟩
              clear hK K hHeld
              rename _ => hHeld
              try simp only [Act.put, List.setIfInBounds_toArray, List.set_cons_zero, List.set_cons_succ]
              refine wpAnyH_take (i := 9) (oi := ⟨some 68, _, _, _, _, _⟩) (v := ?_) rfl (by kernel_rfl) (by kernel_rfl) (by kernel_rfl) (fun _ _ _ h => h) (Or.inl ⟨by rfl, ?_⟩) (by assumption) ?_
              rotate_left
              · (intro w hSw; (try dsimp only at hSw); go_simp; try with_reducible rfl)
              try simp only [Act.put, List.setIfInBounds_toArray, List.set_cons_zero, List.set_cons_succ]
              refine wpAnyH_ready (rs := [10]) (by kernel_rfl) (by simp) ?_
              refine AllReadyH.cons (o := ⟨none, _, _, _, _, _⟩) rfl (fun K hK => ?_) AllReadyH.nil
              go_simp
              refine hK.out _ _ ?_ (fun hHeldX => ?_)
              · exact ⟨(B4.out.cell (p := ⟨w.heap.size, 1, none⟩) hO1).trans m1, (B4.out.cell (p := ⟨b', off' + j, none⟩) (by show b' < O; omega)).trans e1⟩
              clear hK K hHeld
              rename _ => hHeld
              try simp only [Act.put, List.setIfInBounds_toArray, List.set_cons_zero, List.set_cons_succ]
              refine wpAnyH_done (by kernel_rfl) ?_ _
              refine NoPanic.normal ?_
              rotate_left
              all_goals
                go_wp2
                have hoc := O4.out
                have bc := B4.out
                clear O4 B4 hrun dA coA kA kB cw fw bst hst co hlc hHeld
                generalize w4.setCell ⟨O, 1, none⟩ (.slice a5 n5 c5) = Wc at hoc bc ⊢
                go_roundw
                case rel =>
                  refine ⟨j + 1, true, M ++ [(k, x)] ++ [(pk, pv)], _, _, by omega, by simp; omega, rfl, by go_num, ?_, by simpa using hoc, (fun e => by cases e), bc⟩
                  show _ = _
                  rw [H.out, D.out]; simp [restE, putE, dropE, HBL.out, HK.out]
                case measure => simp [intOf]; omega
        · have hles := fun W => ref_Less pk k W hpl
          rw [hbl] at hles
          have HBL := Lib.hid hbl
          have HK := Lib.hid (bl_ne hbl)
          have hk1 : (pk == k) = false := by simpa using HK.out
          clear hbl
          go_wp2_with fail
          refine (hles _).mono ?_
          rintro e w2 ⟨rfl, hB2⟩
          have hoc := ho.below hB2
          have bc := hB.trans (hB2.mono (by have := ho.lt; omega))
          clear ho hB cm0 cm1 ce0 hB2 hles
          generalize w2 = Wc at hoc bc ⊢
          have cm0 := (bc.cell (p := ⟨w.heap.size, 0, none⟩) hO1).trans m0
          have ce0 := (bc.cell (p := ⟨b, off + j, none⟩) (by show b < O; omega)).trans e0
          go_wp2_with fail
          clear cm0 ce0
          have hlc := hoc.lt
          have co := hoc.cell0
          obtain ⟨a3, n3, c3, w4, hr0, cw, fw, out4, bst, hst⟩ := key_step hoc.drew pk (by simp; omega)
          have hrun : (Builtin.append_ #[29, 29] 29 #[(.slice ja jn jc), .slice (some ⟨Wc.heap.size, 0, none⟩) 1 1]).run Tryz.prog (Wc.alloc (.cells #[keyV pk] 9)).drew = .ok (.slice a3 n3 c3) w4 := hr0
          clear hr0
          have B4 := Lib.hid (bc.drew.trans bst)
          have O4 := Lib.hid out4
          have dA : ∀ o, Below O W3 (Wc.alloc o).drew := fun o => (bc.alloc (by omega) o).drew
          have coA : ∀ o, (Wc.alloc o).cell? ⟨O, 0, none⟩ = some ((.slice ja jn jc)) := fun o => by rw [World.cell?_alloc_lt _ _ _ (by show O < Wc.heap.size; omega)]; exact co
          have kA := bc.drew
          have kB := bc.drew.trans hst
          clear out4
          refine wp_region_noPanic ?_
          refine wp_region_held_drew (S := (fun w' => w'.cell? ⟨w.heap.size, 0, none⟩ = some (.slice (some ⟨b, off, none⟩) E.length kc) ∧ w'.cell? ⟨b, off + j, none⟩ = some (keyV pk))) (by kernel_rfl) ?_ (fun hHeld => ?_)
          · exact ⟨(kA.cell (p := ⟨w.heap.size, 0, none⟩) hO1).trans m0, (kA.cell (p := ⟨b, off + j, none⟩) (by show b < O; omega)).trans e0⟩
          refine wpAnyH_take (i := 0) (oi := ⟨some 49, _, _, _, _, _⟩) (v := ?_) rfl (by kernel_rfl) (by kernel_rfl) (by kernel_rfl) (fun _ _ _ h => h) (Or.inl ⟨by rfl, ?_⟩) (by assumption) ?_
          rotate_left
          · (intro w hSw; (try dsimp only at hSw); go_simp; try with_reducible rfl)
          try simp only [Act.put, List.setIfInBounds_toArray, List.set_cons_zero, List.set_cons_succ]
          refine wpAnyH_take (i := 2) (oi := ⟨some 51, _, _, _, _, _⟩) (v := ?_) rfl (by kernel_rfl) (by kernel_rfl) (by kernel_rfl) (fun _ _ _ h => h) (Or.inl ⟨by rfl, ?_⟩) (by assumption) ?_
          rotate_left
          · (intro w hSw; (try dsimp only at hSw); go_simp; try with_reducible rfl)
          try simp only [Act.put, List.setIfInBounds_toArray, List.set_cons_zero, List.set_cons_succ]
          refine wpAnyH_take (i := 3) (oi := ⟨some 52, _, _, _, _, _⟩) (v := ?_) rfl (by kernel_rfl) (by kernel_rfl) (by kernel_rfl) (fun _ _ _ h => h) (Or.inl ⟨by rfl, ?_⟩) (by assumption) ?_
          rotate_left
          · (intro w hSw; (try dsimp only at hSw); go_simp; try with_reducible rfl)
          try simp only [Act.put, List.setIfInBounds_toArray, List.set_cons_zero, List.set_cons_succ]
          refine wpAnyH_take (i := 4) (oi := ⟨some 53, _, _, _, _, _⟩) (v := ?_) rfl (by kernel_rfl) (by kernel_rfl) (by kernel_rfl) (fun _ _ _ h => h) (Or.inl ⟨by rfl, ?_⟩) (by assumption) ?_
          rotate_left
          · (intro w hSw; (try dsimp only at hSw); go_simp; try with_reducible rfl)
          try simp only [Act.put, List.setIfInBounds_toArray, List.set_cons_zero, List.set_cons_succ]
          refine wpAnyH_take (i := 5) (oi := ⟨some 54, _, _, _, _, _⟩) (v := ?_) rfl (by kernel_rfl) (by kernel_rfl) (by kernel_rfl) (fun _ _ _ h => h) (Or.inl ⟨by rfl, ?_⟩) (by assumption) ?_
          rotate_left
          · (intro w hSw; (try dsimp only at hSw); go_simp; try with_reducible rfl)
          try simp only [Act.put, List.setIfInBounds_toArray, List.set_cons_zero, List.set_cons_succ]
          refine wpAnyH_take (i := 6) (oi := ⟨some 55, _, _, _, _, _⟩) (v := ?_) rfl (by kernel_rfl) (by kernel_rfl) (by kernel_rfl) (fun _ _ _ h => h) (Or.inl ⟨by rfl, ?_⟩) (by assumption) ?_
          rotate_left
          · (intro w hSw; (try dsimp only at hSw); go_simp; try with_reducible rfl)
          try simp only [Act.put, List.setIfInBounds_toArray, List.set_cons_zero, List.set_cons_succ]
          refine wpAnyH_ready (rs := [1, 7]) (by kernel_rfl) (by simp) ?_
          refine AllReadyH.cons (o := ⟨some 50, _, _, _, _, _⟩) rfl (fun K hK => ?_) (AllReadyH.cons (o := ⟨some 56, _, _, _, _, _⟩) rfl (fun K hK => ?_) AllReadyH.nil)
          go_simp
          refine hK.out _ _ ?_ (fun hHeldX => ?_)
          · exact ⟨(kA.cell (p := ⟨w.heap.size, 0, none⟩) hO1).trans m0, (kA.cell (p := ⟨b, off + j, none⟩) (by show b < O; omega)).trans e0⟩
          clear hK K hHeld
          rename _ => hHeld
          try simp only [Act.put, List.setIfInBounds_toArray, List.set_cons_zero, List.set_cons_succ]
          refine wpAnyH_ready (rs := [7]) (by kernel_rfl) (by simp) ?_
          refine AllReadyH.cons (o := ⟨some 56, _, _, _, _, _⟩) rfl (fun K hK => ?_) AllReadyH.nil
          go_simp
          refine hK.out _ _ ?_ (fun hHeldX => ?_)
          · exact ⟨((dA _).cell (p := ⟨w.heap.size, 0, none⟩) hO1).trans m0, ((dA _).cell (p := ⟨b, off + j, none⟩) (by show b < O; omega)).trans e0⟩
          clear hK K hHeld
          rename _ => hHeld
          try simp only [Act.put, List.setIfInBounds_toArray, List.set_cons_zero, List.set_cons_succ]
          refine wpAnyH_ready (rs := [8]) (by kernel_rfl) (by simp) ?_
          refine AllReadyH.cons (o := ⟨some 57, _, _, _, _, _⟩) rfl (fun K hK => ?_) AllReadyH.nil
          refine step_append_run rfl (.tmp 50) (.tmp 56) 29 rfl _ _ _ _ rfl rfl hrun ?_
          refine hK.out _ _ ?_ (fun hHeldX => ?_)
          · exact ⟨(kB.cell (p := ⟨w.heap.size, 0, none⟩) hO1).trans m0, (kB.cell (p := ⟨b, off + j, none⟩) (by show b < O; omega)).trans e0⟩
          clear hK K hHeld
          rename _ => hHeld
          try simp only [Act.put, List.setIfInBounds_toArray, List.set_cons_zero, List.set_cons_succ]
          refine wpAnyH_take (i := 9) (oi := ⟨some 58, _, _, _, _, _⟩) (v := ?_) rfl (by kernel_rfl) (by kernel_rfl) (by kernel_rfl) (fun _ _ _ h => h) (Or.inl ⟨by rfl, ?_⟩) (by assumption) ?_
          rotate_left
          · (intro w hSw; (try dsimp only at hSw); go_simp; try with_reducible rfl)
          try simp only [Act.put, List.setIfInBounds_toArray, List.set_cons_zero, List.set_cons_succ]
          refine wpAnyH_ready (rs := [10]) (by kernel_rfl) (by simp) ?_
          refine AllReadyH.cons (o := ⟨none, _, _, _, _, _⟩) rfl (fun K hK => ?_) AllReadyH.nil
          go_simp
          refine hK.out _ _ ?_ (fun hHeldX => ?_)
          · exact ⟨(B4.out.cell (p := ⟨w.heap.size, 0, none⟩) hO1).trans m0, (B4.out.cell (p := ⟨b, off + j, none⟩) (by show b < O; omega)).trans e0⟩
          clear hK K hHeld
          rename _ => hHeld
          try simp only [Act.put, List.setIfInBounds_toArray, List.set_cons_zero, List.set_cons_succ]
          refine wpAnyH_done (by kernel_rfl) ?_ _
          refine NoPanic.normal ?_
          rotate_left
          go_simp
          refine hK.out _ _ ?_ (fun hHeldX => ?_)
          · exact ⟨((dA _).cell (p := ⟨w.heap.size, 0, none⟩) hO1).trans m0, ((dA _).cell (p := ⟨b, off + j, none⟩) (by show b < O; omega)).trans e0⟩
          clear hK K hHeld
          rename _ => hHeld
          try simp only [Act.put, List.setIfInBounds_toArray, List.set_cons_zero, List.set_cons_succ]
          refine wpAnyH_ready (rs := [1]) (by kernel_rfl) (by simp) ?_
          refine AllReadyH.cons (o := ⟨some 50, _, _, _, _, _⟩) rfl (fun K hK => ?_) AllReadyH.nil
          go_simp
          refine hK.out _ _ ?_ (fun hHeldX => ?_)
          · exact ⟨((dA _).cell (p := ⟨w.heap.size, 0, none⟩) hO1).trans m0, ((dA _).cell (p := ⟨b, off + j, none⟩) (by show b < O; omega)).trans e0⟩
          clear hK K hHeld
          rename _ => hHeld
          try simp only [Act.put, List.setIfInBounds_toArray, List.set_cons_zero, List.set_cons_succ]
          refine wpAnyH_ready (rs := [8]) (by kernel_rfl) (by simp) ?_
          refine AllReadyH.cons (o := ⟨some 57, _, _, _, _, _⟩) rfl (fun K hK => ?_) AllReadyH.nil
          refine step_append_run rfl (.tmp 50) (.tmp 56) 29 rfl _ _ _ _ rfl rfl hrun ?_
          refine hK.out _ _ ?_ (fun hHeldX => ?_)
          · exact ⟨(kB.cell (p := ⟨w.heap.size, 0, none⟩) hO1).trans m0, (kB.cell (p := ⟨b, off + j, none⟩) (by show b < O; omega)).trans e0⟩
          clear hK K hHeld
          rename _ => hHeld
          try simp only [Act.put, List.setIfInBounds_toArray, List.set_cons_zero, List.set_cons_succ]
          refine wpAnyH_take (i := 9) (oi := ⟨some 58, _, _, _, _, _⟩) (v := ?_) rfl (by kernel_rfl) (by kernel_rfl) (by kernel_rfl) (fun _ _ _ h => h) (Or.inl ⟨by rfl, ?_⟩) (by assumption) ?_
          rotate_left
          · (intro w hSw; (try dsimp only at hSw); go_simp; try with_reducible rfl)
          try simp only [Act.put, List.setIfInBounds_toArray, List.set_cons_zero, List.set_cons_succ]
          refine wpAnyH_ready (rs := [10]) (by kernel_rfl) (by simp) ?_
          refine AllReadyH.cons (o := ⟨none, _, _, _, _, _⟩) rfl (fun K hK => ?_) AllReadyH.nil
          go_simp
          refine hK.out _ _ ?_ (fun hHeldX => ?_)
          · exact ⟨(B4.out.cell (p := ⟨w.heap.size, 0, none⟩) hO1).trans m0, (B4.out.cell (p := ⟨b, off + j, none⟩) (by show b < O; omega)).trans e0⟩
          clear hK K hHeld
          rename _ => hHeld
          try simp only [Act.put, List.setIfInBounds_toArray, List.set_cons_zero, List.set_cons_succ]
          refine wpAnyH_done (by kernel_rfl) ?_ _
          refine NoPanic.normal ?_
          rotate_left
          all_goals
            go_wp2_with fail
            have hoc := O4.out
            have bc := B4.out
            clear O4 B4 hrun dA coA kA kB cw fw bst hst co hlc hHeld
            generalize w4.setCell ⟨O, 0, none⟩ (.slice a3 n3 c3) = Wc at hoc bc ⊢
            have hlc := hoc.lt
            have co := hoc.cell1
            obtain ⟨a5, n5, c5, w4, hr0, cw, fw, out4, bst, hst⟩ := val_step hoc.drew pv (by simp; omega)
            have hrun : (Builtin.append_ #[30, 30] 30 #[(.slice ia inn ic), .slice (some ⟨Wc.heap.size, 0, none⟩) 1 1]).run Tryz.prog (Wc.alloc (.cells #[.int .i64 pv] 3)).drew = .ok (.slice a5 n5 c5) w4 := hr0
            clear hr0
            have B4 := Lib.hid (bc.drew.trans bst)
            have O4 := Lib.hid out4
            have dA : ∀ o, Below O W3 (Wc.alloc o).drew := fun o => (bc.alloc (by omega) o).drew
            have coA : ∀ o, (Wc.alloc o).cell? ⟨O, 1, none⟩ = some ((.slice ia inn ic)) := fun o => by rw [World.cell?_alloc_lt _ _ _ (by show O < Wc.heap.size; omega)]; exact co
            have kA := bc.drew
            have kB := bc.drew.trans hst
            clear out4
            refine wp_region_noPanic ?_
            refine wp_region_held_drew (S := (fun w' => w'.cell? ⟨w.heap.size, 1, none⟩ = some (.slice (some ⟨b', off', none⟩) E.length vc) ∧ w'.cell? ⟨b', off' + j, none⟩ = some (.int .i64 pv))) (by kernel_rfl) ?_ (fun hHeld => ?_)
            · exact ⟨(kA.cell (p := ⟨w.heap.size, 1, none⟩) hO1).trans m1, (kA.cell (p := ⟨b', off' + j, none⟩) (by show b' < O; omega)).trans e1⟩
            refine wpAnyH_take (i := 0) (oi := ⟨some 59, _, _, _, _, _⟩) (v := ?_) rfl (by kernel_rfl) (by kernel_rfl) (by kernel_rfl) (fun _ _ _ h => h) (Or.inl ⟨by rfl, ?_⟩) (by assumption) ?_
            rotate_left
            · (intro w hSw; (try dsimp only at hSw); go_simp; try with_reducible rfl)
            try simp only [Act.put, List.setIfInBounds_toArray, List.set_cons_zero, List.set_cons_succ]
            refine wpAnyH_take (i := 2) (oi := ⟨some 61, _, _, _, _, _⟩) (v := ?_) rfl (by kernel_rfl) (by kernel_rfl) (by kernel_rfl) (fun _ _ _ h => h) (Or.inl ⟨by rfl, ?_⟩) (by assumption) ?_
            rotate_left
            · (intro w hSw; (try dsimp only at hSw); go_simp; try with_reducible rfl)
            try simp only [Act.put, List.setIfInBounds_toArray, List.set_cons_zero, List.set_cons_succ]
            refine wpAnyH_take (i := 3) (oi := ⟨some 62, _, _, _, _, _⟩) (v := ?_) rfl (by kernel_rfl) (by kernel_rfl) (by kernel_rfl) (fun _ _ _ h => h) (Or.inl ⟨by rfl, ?_⟩) (by assumption) ?_
            rotate_left
            · (intro w hSw; (try dsimp only at hSw); go_simp; try with_reducible rfl)
            try simp only [Act.put, List.setIfInBounds_toArray, List.set_cons_zero, List.set_cons_succ]
            refine wpAnyH_take (i := 4) (oi := ⟨some 63, _, _, _, _, _⟩) (v := ?_) rfl (by kernel_rfl) (by kernel_rfl) (by kernel_rfl) (fun _ _ _ h => h) (Or.inl ⟨by rfl, ?_⟩) (by assumption) ?_
            rotate_left
            · (intro w hSw; (try dsimp only at hSw); go_simp; try with_reducible rfl)
            try simp only [Act.put, List.setIfInBounds_toArray, List.set_cons_zero, List.set_cons_succ]
            refine wpAnyH_take (i := 5) (oi := ⟨some 64, _, _, _, _, _⟩) (v := ?_) rfl (by kernel_rfl) (by kernel_rfl) (by kernel_rfl) (fun _ _ _ h => h) (Or.inl ⟨by rfl, ?_⟩) (by assumption) ?_
            rotate_left
            · (intro w hSw; (try dsimp only at hSw); go_simp; try with_reducible rfl)
            try simp only [Act.put, List.setIfInBounds_toArray, List.set_cons_zero, List.set_cons_succ]
            refine wpAnyH_take (i := 6) (oi := ⟨some 65, _, _, _, _, _⟩) (v := ?_) rfl (by kernel_rfl) (by kernel_rfl) (by kernel_rfl) (fun _ _ _ h => h) (Or.inl ⟨by rfl, ?_⟩) (by assumption) ?_
            rotate_left
            · (intro w hSw; (try dsimp only at hSw); go_simp; try with_reducible rfl)
            try simp only [Act.put, List.setIfInBounds_toArray, List.set_cons_zero, List.set_cons_succ]
            refine wpAnyH_ready (rs := [1, 7]) (by kernel_rfl) (by simp) ?_
            refine AllReadyH.cons (o := ⟨some 60, _, _, _, _, _⟩) rfl (fun K hK => ?_) (AllReadyH.cons (o := ⟨some 66, _, _, _, _, _⟩) rfl (fun K hK => ?_) AllReadyH.nil)
            go_simp
            refine hK.out _ _ ?_ (fun hHeldX => ?_)
            · exact ⟨(kA.cell (p := ⟨w.heap.size, 1, none⟩) hO1).trans m1, (kA.cell (p := ⟨b', off' + j, none⟩) (by show b' < O; omega)).trans e1⟩
            clear hK K hHeld
            rename _ => hHeld
            try simp only [Act.put, List.setIfInBounds_toArray, List.set_cons_zero, List.set_cons_succ]
            refine wpAnyH_ready (rs := [7]) (by kernel_rfl) (by simp) ?_
            refine AllReadyH.cons (o := ⟨some 66, _, _, _, _, _⟩) rfl (fun K hK => ?_) AllReadyH.nil
            go_simp
            refine hK.out _ _ ?_ (fun hHeldX => ?_)
            · exact ⟨((dA _).cell (p := ⟨w.heap.size, 1, none⟩) hO1).trans m1, ((dA _).cell (p := ⟨b', off' + j, none⟩) (by show b' < O; omega)).trans e1⟩
            clear hK K hHeld
            rename _ => hHeld
            try simp only [Act.put, List.setIfInBounds_toArray, List.set_cons_zero, List.set_cons_succ]
            refine wpAnyH_ready (rs := [8]) (by kernel_rfl) (by simp) ?_
            refine AllReadyH.cons (o := ⟨some 67, _, _, _, _, _⟩) rfl (fun K hK => ?_) AllReadyH.nil
            refine step_append_run rfl (.tmp 60) (.tmp 66) 30 rfl _ _ _ _ rfl rfl hrun ?_
            refine hK.out _ _ ?_ (fun hHeldX => ?_)
            · exact ⟨(kB.cell (p := ⟨w.heap.size, 1, none⟩) hO1).trans m1, (kB.cell (p := ⟨b', off' + j, none⟩) (by show b' < O; omega)).trans e1⟩
            clear hK K hHeld
            rename _ => hHeld
            try simp only [Act.put, List.setIfInBounds_toArray, List.set_cons_zero, List.set_cons_succ]
            refine wpAnyH_take (i := 9) (oi := ⟨some 68, _, _, _, _, _⟩) (v := ?_) rfl (by kernel_rfl) (by kernel_rfl) (by kernel_rfl) (fun _ _ _ h => h) (Or.inl ⟨by rfl, ?_⟩) (by assumption) ?_
            rotate_left
            · (intro w hSw; (try dsimp only at hSw); go_simp; try with_reducible rfl)
            try simp only [Act.put, List.setIfInBounds_toArray, List.set_cons_zero, List.set_cons_succ]
            refine wpAnyH_ready (rs := [10]) (by kernel_rfl) (by simp) ?_
            refine AllReadyH.cons (o := ⟨none, _, _, _, _, _⟩) rfl (fun K hK => ?_) AllReadyH.nil
            go_simp
            refine hK.out _ _ ?_ (fun hHeldX => ?_)
            · exact ⟨(B4.out.cell (p := ⟨w.heap.size, 1, none⟩) hO1).trans m1, (B4.out.cell (p := ⟨b', off' + j, none⟩) (by show b' < O; omega)).trans e1⟩
            clear hK K hHeld
            rename _ => hHeld
            try simp only [Act.put, List.setIfInBounds_toArray, List.set_cons_zero, List.set_cons_succ]
            refine wpAnyH_done (by kernel_rfl) ?_ _
            refine NoPanic.normal ?_
            rotate_left
            go_simp
            refine hK.out _ _ ?_ (fun hHeldX => ?_)
            · exact ⟨((dA _).cell (p := ⟨w.heap.size, 1, none⟩) hO1).trans m1, ((dA _).cell (p := ⟨b', off' + j, none⟩) (by show b' < O; omega)).trans e1⟩
            clear hK K hHeld
            rename _ => hHeld
            try simp only [Act.put, List.setIfInBounds_toArray, List.set_cons_zero, List.set_cons_succ]
            refine wpAnyH_ready (rs := [1]) (by kernel_rfl) (by simp) ?_
            refine AllReadyH.cons (o := ⟨some 60, _, _, _, _, _⟩) rfl (fun K hK => ?_) AllReadyH.nil
            go_simp
            refine hK.out _ _ ?_ (fun hHeldX => ?_)
            · exact ⟨((dA _).cell (p := ⟨w.heap.size, 1, none⟩) hO1).trans m1, ((dA _).cell (p := ⟨b', off' + j, none⟩) (by show b' < O; omega)).trans e1⟩
            clear hK K hHeld
            rename _ => hHeld
            try simp only [Act.put, List.setIfInBounds_toArray, List.set_cons_zero, List.set_cons_succ]
            refine wpAnyH_ready (rs := [8]) (by kernel_rfl) (by simp) ?_
            refine AllReadyH.cons (o := ⟨some 67, _, _, _, _, _⟩) rfl (fun K hK => ?_) AllReadyH.nil
            refine step_append_run rfl (.tmp 60) (.tmp 66) 30 rfl _ _ _ _ rfl rfl hrun ?_
            refine hK.out _ _ ?_ (fun hHeldX => ?_)
            · exact ⟨(kB.cell (p := ⟨w.heap.size, 1, none⟩) hO1).trans m1, (kB.cell (p := ⟨b', off' + j, none⟩) (by show b' < O; omega)).trans e1⟩
            clear hK K hHeld
            rename _ => hHeld
            try simp only [Act.put, List.setIfInBounds_toArray, List.set_cons_zero, List.set_cons_succ]
            refine wpAnyH_take (i := 9) (oi := ⟨some 68, _, _, _, _, _⟩) (v := ?_) rfl (by kernel_rfl) (by kernel_rfl) (by kernel_rfl) (fun _ _ _ h => h) (Or.inl ⟨by rfl, ?_⟩) (by assumption) ?_
            rotate_left
            · (intro w hSw; (try dsimp only at hSw); go_simp; try with_reducible rfl)
            try simp only [Act.put, List.setIfInBounds_toArray, List.set_cons_zero, List.set_cons_succ]
            refine wpAnyH_ready (rs := [10]) (by kernel_rfl) (by simp) ?_
            refine AllReadyH.cons (o := ⟨none, _, _, _, _, _⟩) rfl (fun K hK => ?_) AllReadyH.nil
            go_simp
            refine hK.out _ _ ?_ (fun hHeldX => ?_)
            · exact ⟨(B4.out.cell (p := ⟨w.heap.size, 1, none⟩) hO1).trans m1, (B4.out.cell (p := ⟨b', off' + j, none⟩) (by show b' < O; omega)).trans e1⟩
            clear hK K hHeld
            rename _ => hHeld
            try simp only [Act.put, List.setIfInBounds_toArray, List.set_cons_zero, List.set_cons_succ]
            refine wpAnyH_done (by kernel_rfl) ?_ _
            refine NoPanic.normal ?_
            rotate_left
            all_goals
              go_wp2
              have hoc := O4.out
              have bc := B4.out
              clear O4 B4 hrun dA coA kA kB cw fw bst hst co hlc hHeld
              generalize w4.setCell ⟨O, 1, none⟩ (.slice a5 n5 c5) = Wc at hoc bc ⊢
              go_roundw
              case rel =>
                refine ⟨j + 1, false, M ++ [(pk, pv)], _, _, by omega, by simp; omega, rfl, by go_num, ?_, by simpa using hoc, (fun _ => by simp; omega), bc⟩
                show _ = _
                rw [H.out, D.out]; simp [restE, putE, HBL.out]
              case measure => simp [intOf]; omega
    · have hf : putE k x E = M ++ restE k x dn [] := by
        have := H.out
        rwa [List.drop_eq_nil_of_le (by omega)] at this
      cases dn with
      | true =>
        have hf : putE k x E = M := by rw [hf]; simp [restE, dropE]
        have HF := Lib.hid hf
        clear hf hMd
        have hRw := (hB.block (w.heap.size + 1) hO2).trans HR3.out
        have r0 : wr.cell? ⟨w.heap.size + 1, 0, none⟩ = some (.slice none 0 0) := by simp [World.cell?, hRw]
        have r1 : wr.cell? ⟨w.heap.size + 1, 1, none⟩ = some (.slice none 0 0) := by simp [World.cell?, hRw]
        have z0 : wr.frozen? ⟨w.heap.size + 1, 0, none⟩ = false := by simp [World.frozen?, hRw]
        have z1 : wr.frozen? ⟨w.heap.size + 1, 1, none⟩ = false := by simp [World.frozen?, hRw]
        have o0 := ho.cell0
        have o1 := ho.cell1
        have q1 := (heap_set2 hRw (.slice ja jn jc)).1
        have q2 := Lib.hid (heap_set2 q1 (.slice ia inn ic)).2
        clear hRw q1
        go_wp2
        have k0 : ((wr.setCell ⟨w.heap.size + 1, 0, none⟩ (.slice ja jn jc)).setCell ⟨w.heap.size + 1, 1, none⟩ (.slice ia inn ic)).cell? ⟨w.heap.size + 1, 0, none⟩ = some (.slice ja jn jc) := by simp only [World.cell?, q2.out]; rfl
        have k1 : ((wr.setCell ⟨w.heap.size + 1, 0, none⟩ (.slice ja jn jc)).setCell ⟨w.heap.size + 1, 1, none⟩ (.slice ia inn ic)).cell? ⟨w.heap.size + 1, 1, none⟩ = some (.slice ia inn ic) := by simp only [World.cell?, q2.out]; rfl
        refine bodyPost_ret (v := .agg #[.slice ja jn jc, .slice ia inn ic]) (by simp only [results, Tryz.f33]; simp [go_sem, k0, k1]) rfl ⟨_, rfl, ?_, ((BB.out.trans (hB.mono (by omega))).setCell (p := ⟨w.heap.size + 1, 0, none⟩) (by show w.heap.size ≤ w.heap.size + 1; omega) _).setCell (p := ⟨w.heap.size + 1, 1, none⟩) (by show w.heap.size ≤ w.heap.size + 1; omega) _⟩
        rw [HF.out]
        exact ((ho.away (w.heap.size + 1) 0 _ hO2).away (w.heap.size + 1) 1 _ hO2).refFr (by omega)
      | false =>
        have hMl := hMd rfl
        have hf : putE k x E = M ++ [(k, x)] := by rw [hf]; simp [restE, putE]
        have HF := Lib.hid hf
        clear hf hMd
        have hlc := ho.lt
        have o0 := ho.cell0
        obtain ⟨a6, n6, c6, w6, hrunk, cwk, fwk, outk, bstk, _⟩ := key_step ho k (by simp; omega)
        have o1 := outk.cell1
        obtain ⟨a7, n7, c7, w7, hrunv, cwv, fwv, outv, bstv, _⟩ := val_step outk x (by simp; omega)
        have hz6 : (w6.setCell ⟨O, 0, none⟩ (.slice a6 n6 c6)).heap.size = w6.heap.size := by simp [World.setCell]
        rw [hz6] at hrunv
        have OV : Hid (OutIn (w7.setCell ⟨O, 1, none⟩ (.slice a7 n7 c7)) O (.slice a6 n6 c6) (.slice a7 n7 c7) ((M ++ [(k, x)]).map Prod.fst) ((M ++ [(k, x)]).map Prod.snd)) := by
          show OutIn _ _ _ _ _ _
          simpa using outv
        have B7 := Lib.hid (hB.trans (bstk.trans bstv))
        have hRw := (B7.out.block (w.heap.size + 1) hO2).trans HR3.out
        have r0 : (w7.setCell ⟨O, 1, none⟩ (.slice a7 n7 c7)).cell? ⟨w.heap.size + 1, 0, none⟩ = some (.slice none 0 0) := by simp only [World.cell?, hRw]; rfl
        have r1 : (w7.setCell ⟨O, 1, none⟩ (.slice a7 n7 c7)).cell? ⟨w.heap.size + 1, 1, none⟩ = some (.slice none 0 0) := by simp only [World.cell?, hRw]; rfl
        have z0 : (w7.setCell ⟨O, 1, none⟩ (.slice a7 n7 c7)).frozen? ⟨w.heap.size + 1, 0, none⟩ = false := by simp only [World.frozen?, hRw]; rfl
        have z1 : (w7.setCell ⟨O, 1, none⟩ (.slice a7 n7 c7)).frozen? ⟨w.heap.size + 1, 1, none⟩ = false := by simp only [World.frozen?, hRw]; rfl
        have u0 := outv.cell0
        have u1 := outv.cell1
        clear outk outv bstk bstv hRw
        go_wp2_with (first | (with_reducible show wpList _ _ _ (⟨some 75, _, _, _, _, _⟩ :: _) _ _; refine wpList_append_run (o := ⟨some 75, _, _, _, _, _⟩) rfl (.tmp 72) (.tmp 74) 29 rfl (.slice ja jn jc) (.slice (some ⟨wr.heap.size, 0, none⟩) 1 1) (.slice a6 n6 c6) w6 rfl rfl hrunk ?_) | (with_reducible show wpList _ _ _ (⟨some 81, _, _, _, _, _⟩ :: _) _ _; refine wpList_append_run (o := ⟨some 81, _, _, _, _, _⟩) rfl (.tmp 78) (.tmp 80) 30 rfl (.slice ia inn ic) (.slice (some ⟨w6.heap.size, 0, none⟩) 1 1) (.slice a7 n7 c7) w7 rfl rfl hrunv ?_))
        have hRw := (B7.out.block (w.heap.size + 1) hO2).trans HR3.out
        have q1 := (heap_set2 hRw (.slice a6 n6 c6)).1
        have q2 := (heap_set2 q1 (.slice a7 n7 c7)).2
        have k0 : (((w7.setCell ⟨O, 1, none⟩ (.slice a7 n7 c7)).setCell ⟨w.heap.size + 1, 0, none⟩ (.slice a6 n6 c6)).setCell ⟨w.heap.size + 1, 1, none⟩ (.slice a7 n7 c7)).cell? ⟨w.heap.size + 1, 0, none⟩ = some (.slice a6 n6 c6) := by simp only [World.cell?, q2]; rfl
        have k1 : (((w7.setCell ⟨O, 1, none⟩ (.slice a7 n7 c7)).setCell ⟨w.heap.size + 1, 0, none⟩ (.slice a6 n6 c6)).setCell ⟨w.heap.size + 1, 1, none⟩ (.slice a7 n7 c7)).cell? ⟨w.heap.size + 1, 1, none⟩ = some (.slice a7 n7 c7) := by simp only [World.cell?, q2]; rfl
        refine bodyPost_ret (v := .agg #[.slice a6 n6 c6, .slice a7 n7 c7]) (by simp only [results, Tryz.f33]; simp [go_sem, k0, k1]) rfl ⟨_, rfl, ?_, ((BB.out.trans (B7.out.mono (by omega))).setCell (p := ⟨w.heap.size + 1, 0, none⟩) (by show w.heap.size ≤ w.heap.size + 1; omega) _).setCell (p := ⟨w.heap.size + 1, 1, none⟩) (by show w.heap.size ≤ w.heap.size + 1; omega) _⟩
        rw [HF.out]
        exact ((OV.out.away (w.heap.size + 1) 0 _ hO2).away (w.heap.size + 1) 1 _ hO2).refFr (by omega)

theorem ref_Put (v : Value) (E : List Ent) (k : Key) (x : Int) (w : World) (h : RefIn w v E) (hbig : E.length ≤ 10000) (hkl : ∀ p ∈ E, p.1.length ≤ 1000000) :
    Calls Tryz.prog 33 #[v, keyV k, .int .i64 x] w fun e w' => ∃ r, e = .returned r ∧ RefIn w' r (putE k x E) ∧ Below w.heap.size w w' :=
  (ref_Put0 v E k x w h hbig hkl).mono fun _ _ ⟨r, h1, h2, h3⟩ => ⟨r, h1, h2.1, h3⟩

end Go.Proofs.YtmfejpbijllojaaGreat
