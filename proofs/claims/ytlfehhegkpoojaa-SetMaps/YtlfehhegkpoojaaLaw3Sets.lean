/- SetSets' walk. Made by tools/gen_sets.py. -/
import Derived.Test.YtlfehhegkpoojaaLaw3Joins
import Derived.Test.YtlfehhegkpoojaaArgs3
namespace Go.Proofs.Ytlfehhegkpoojaa
open Go.RowKit Go.Shelf

/-- A list of numbers lies elsewhere than a set's box. -/
theorem NumsIn.setBox {W : World} {P : Nat} {t : TypeId} {a : Option Addr} {n c : Nat} {v : Value} {L : List Int} (h : NumsIn W v L) (hb : Boxed W P t (.slice a n c)) (u : Value) : NumsIn (W.setCell ⟨P, 0, none⟩ u) v L := by
  obtain ⟨h0, h1 | ⟨b, off, cap, hv, h1, h2, h3⟩⟩ := h
  · exact ⟨h0, .inl h1⟩
  · refine ⟨h0, .inr ⟨b, off, cap, hv, h1, by simpa [World.setCell] using h2, fun j x hx => ?_⟩⟩
    have hne : b ≠ P := fun e => by
      subst e
      have hc := h3 j x hx
      rw [List.getElem?_map, Option.map_eq_some_iff] at hx
      obtain ⟨y, _, rfl⟩ := hx
      have hbk : W.heap[b]? = some (.cells #[.slice a n c] t (0, 0)) := hb
      simp only [World.cell?, hbk] at hc
      cases hk : off + j with
      | zero => rw [hk] at hc; simp at hc
      | succ m => rw [hk] at hc; simp at hc
    exact (World.cell?_of_block (w := W) (Below.heap_setCell _ _ _ _ (fun e => hne e))).trans (h3 j x hx)
theorem SetIn.setBox {W : World} {P : Nat} {t : TypeId} {a : Option Addr} {n c : Nat} {v : Value} {L : List Int} (h : SetIn W v L) (hb : Boxed W P t (.slice a n c)) (u : Value) : SetIn (W.setCell ⟨P, 0, none⟩ u) v L := by
  obtain ⟨⟨s, hv, hs⟩, hu⟩ := h
  exact ⟨⟨s, hv, NumsIn.setBox hs hb u⟩, hu⟩
theorem withZ_length (x : Int) : ∀ L : List Int, (withZ x L).length ≤ L.length + 1
  | [] => by simp [withZ]
  | y :: r => by
    unfold withZ
    split
    · have := List.length_filter_le (fun z => z != x) (y :: r)
      simp only [List.length_cons] at this ⊢
      omega
    · have := withZ_length x r
      simp only [List.length_cons] at this ⊢
      omega
theorem woZ_length (x : Int) (L : List Int) : (woZ x L).length ≤ L.length := List.length_filter_le _ _
theorem ListIn.at {α : Type} {f : α → Value} {W : World} {a : Option Addr} {L : List α} (h : ListIn f W a L) (k : Nat) (hk : k < L.length) : ∃ b off, a = some ⟨b, off, none⟩ ∧ b < W.heap.size ∧ W.cell? ⟨b, off + k, none⟩ = some (f L[k]) := h k _ (List.getElem?_eq_getElem hk)
/-- Several more put in, one by one. -/
def foldW (G : List Int) (l : List Int) : List Int := l.foldl (fun acc y => withZ y acc) G
theorem foldW_snoc (G l : List Int) (y : Int) : foldW G (l ++ [y]) = withZ y (foldW G l) := by simp [foldW]
theorem foldW_facts (G : List Int) (h : Up G) : ∀ l : List Int, Up (foldW G l) ∧ (∀ z, z ∈ foldW G l ↔ z ∈ G ∨ z ∈ l) ∧ (foldW G l).length ≤ G.length + l.length := by
  intro l
  induction l generalizing G with
  | nil => exact ⟨h, fun z => by simp [foldW], by simp [foldW]⟩
  | cons y r ih =>
    obtain ⟨h1, h2, h3⟩ := ih (withZ y G) (up_withZ h)
    have e : foldW G (y :: r) = foldW (withZ y G) r := rfl
    rw [e]
    refine ⟨h1, fun z => ?_, ?_⟩
    · rw [h2, mem_withZ, List.mem_cons]
      constructor
      · rintro ((h | h) | h)
        · exact .inr (.inl h)
        · exact .inl h
        · exact .inr (.inr h)
      · rintro (h | h | h)
        · exact .inl (.inr h)
        · exact .inl (.inl h)
        · exact .inr h
    · have := withZ_length y G
      simp only [List.length_cons]
      omega
theorem join_fold {G l : List Int} (h : Up G) : joinZ G (ofZ l) = foldW G l := by
  obtain ⟨h1, h2, _⟩ := foldW_facts G h l
  obtain ⟨h3, h4⟩ := ofZ_facts l
  refine up_ext (up_joinZ h h3) h1 fun z => ?_
  rw [mem_joinZ h3, h2, h4]

/-- Where the first loop of SetSets stands. -/
structure Stand (w1 wr : World) (ga : Option Addr) (gc : Nat) (sa : Option Addr) (sn sc : Nat) (G : List Int) : Prop where
  box : Boxed wr w1.heap.size 26 (.slice sa sn sc)
  set : SetIn wr (.agg #[.slice sa sn sc]) G
  nums : NumsIn wr (.slice ga G.length gc) G
  below : Below w1.heap.size w1 wr

set_option maxRecDepth 100000 in
set_option maxHeartbeats 8000000 in
theorem sets_main (a pa oa : Option Addr) (cap pcap oc : Nat) (L : List Int) (Lp : List Bool) (Lo : List Int) (x0 : Int) (w : World) (h : ListIn numV w a L) (hp : ListIn Value.bool w pa Lp) (ho : ListIn numV w oa Lo)
    (hl : L.length ≤ 300) (hlp : L.length ≤ Lp.length) (hlo : Lo.length ≤ 300) :
    Calls Try.prog 3 #[.slice a L.length cap, .slice pa Lp.length pcap, .slice oa Lo.length oc, .int .i64 x0] w fun e w' => e = .returned (.bool true) ∧ Below w.heap.size w w' := by
  have HA := Lib.hid h
  have HP := Lib.hid hp
  have HO := Lib.hid ho
  clear h hp ho
  have g1 : ¬ 300 < L.length := by omega
  have g2 : ¬ Lp.length < L.length := by omega
  have g3 : ¬ 300 < Lo.length := by omega
  go_enter Try.func3, Try.ntmps3
  go_wp2_with fail
  refine (awake3 _).mono ?_
  rintro e w1 ⟨rfl, hB1⟩
  have hz1 := hB1.size
  have B1 := Lib.hid hB1
  clear hB1
  go_wp2
  go_loopw [10, 11] (fun o i wr => ∃ (k : Nat) (G : List Int) (ga : Option Addr) (gc : Nat) (sa : Option Addr) (sn sc : Nat), k ≤ L.length ∧ G.length ≤ k ∧ o = .slice ga G.length gc ∧ i = .int .i64 k ∧ Stand w1 wr ga gc sa sn sc G) (fun _ i _ => L.length - (intOf i).toNat)
  case atStart =>
    refine ⟨0, [], none, 0, none, 0, 0, Nat.zero_le _, Nat.le_refl _, rfl, rfl, ⟨Boxed.new w1 _ _, ⟨⟨_, rfl, ⟨rfl, .inl ⟨rfl, rfl⟩⟩⟩, List.Pairwise.nil⟩, ⟨rfl, .inl ⟨rfl, rfl⟩⟩, (Below.refl _ _).alloc (Nat.le_refl _) _⟩⟩
  case round =>
    obtain ⟨k, G, ga, gc, sa, sn, sc, hk, hG, rfl, rfl, st⟩ := hrel
    have hzr := st.below.size
    have hltb : w1.heap.size < wr.heap.size := (Array.getElem?_eq_some_iff.1 st.box).1
    have BR := Lib.hid (B1.out.trans (st.below.mono hz1))
    by_cases hlt : k < L.length
    · obtain ⟨b, off, rfl, hb, hx⟩ := HA.out.at k hlt
      obtain ⟨pb, poff, rfl, hpb, hpv⟩ := HP.out.at k (by omega)
      have hx0 := (BR.out.cell (p := ⟨b, off + k, none⟩) hb).trans hx
      have hp0 := (BR.out.cell (p := ⟨pb, poff + k, none⟩) hpb).trans hpv
      clear hx hpv
      generalize L[k] = x at hx0
      generalize Lp[k] = pt at hp0
      have c9r := st.box.cell
      have hkp : k < Lp.length := by omega
      have hbP : b ≠ w1.heap.size := by omega
      have hpbP : pb ≠ w1.heap.size := by omega
      have box1 := st.box.alloc (.cells #[.slice sa sn sc] 26)
      have box12 := Boxed.new wr 26 (.slice sa sn sc)
      have hba : Below wr.heap.size wr (wr.alloc (.cells #[.slice sa sn sc] 26)) := (Below.refl _ _).alloc (Nat.le_refl _) _
      have set1 := Lib.hid (st.set.below hba)
      have nums1 := Lib.hid (st.nums.below hba)
      have below1 := Lib.hid (st.below.trans (hba.mono (by omega)))
      have hx1 := (hba.cell (p := ⟨b, off + k, none⟩) (by show b < _; omega)).trans hx0
      have hp1 := (hba.cell (p := ⟨pb, poff + k, none⟩) (by show pb < _; omega)).trans hp0
      have hza : (wr.alloc (.cells #[.slice sa sn sc] 26)).heap.size = wr.heap.size + 1 := by simp
      clear hba st
      cases pt
      · go_wp2_with fail
        generalize wr.alloc (.cells #[.slice sa sn sc] 26) = W1 at box1 box12 set1 nums1 below1 hx1 hp1 hza ⊢
        obtain ⟨P12, HP12⟩ : ∃ P12, P12 = wr.heap.size := ⟨_, rfl⟩
        rw [← HP12] at box12 hza hltb ⊢
        clear HP12 c9r hx0 hp0
        have hbW : b < W1.heap.size := by omega
        have hpW : pb < W1.heap.size := by omega
        have p9 : w1.heap.size < W1.heap.size := by omega
        have p12 : P12 < W1.heap.size := by omega
        have hBc : Below W1.heap.size W1 W1.drew := (Below.refl _ _).drew
        have c9 := box1.cell
        refine wp_region_noPanic ?_
        refine wp_region_held_drew (S := (fun w' => w'.cell? ⟨b, off + k, none⟩ = some (.int .i64 x))) (by kernel_rfl) ?_ (fun hHeld => ?_)
        · exact (hBc.cell (p := ⟨b, off + k, none⟩) hbW).trans hx1
        refine wpAnyH_take (i := 1) (oi := ⟨some 60, _, _, _, _, _⟩) (v := ?vnp1) rfl (by kernel_rfl) (by kernel_rfl) (by kernel_rfl) (fun _ _ _ h => h) (Or.inl ⟨by rfl, ?hynp1⟩) (by assumption) ?restnp1
        case hynp1 => (intro w hSw; (try dsimp only at hSw); go_simp; try with_reducible rfl)
        try simp only [Act.put, List.setIfInBounds_toArray, List.set_cons_zero, List.set_cons_succ]
        refine wpAnyH_take (i := 2) (oi := ⟨some 61, _, _, _, _, _⟩) (v := ?vnp2) rfl (by kernel_rfl) (by kernel_rfl) (by kernel_rfl) (fun _ _ _ h => h) (Or.inl ⟨by rfl, ?hynp2⟩) (by assumption) ?restnp2
        case hynp2 => (intro w hSw; (try dsimp only at hSw); go_simp; try with_reducible rfl)
        try simp only [Act.put, List.setIfInBounds_toArray, List.set_cons_zero, List.set_cons_succ]
        refine wpAnyH_take (i := 3) (oi := ⟨some 62, _, _, _, _, _⟩) (v := ?vnp3) rfl (by kernel_rfl) (by kernel_rfl) (by kernel_rfl) (fun _ _ _ h => h) (Or.inl ⟨by rfl, ?hynp3⟩) (by assumption) ?restnp3
        case hynp3 => (intro w hSw; (try dsimp only at hSw); go_simp; try with_reducible rfl)
        try simp only [Act.put, List.setIfInBounds_toArray, List.set_cons_zero, List.set_cons_succ]
        refine wpAnyH_take (i := 4) (oi := ⟨some 63, _, _, _, _, _⟩) (v := ?vnp4) rfl (by kernel_rfl) (by kernel_rfl) (by kernel_rfl) (fun _ _ _ h => h) (Or.inl ⟨by rfl, ?hynp4⟩) (by assumption) ?restnp4
        case hynp4 => (intro w hSw; (try dsimp only at hSw); go_simp; try with_reducible rfl)
        try simp only [Act.put, List.setIfInBounds_toArray, List.set_cons_zero, List.set_cons_succ]
        refine wpAnyH_take (i := 6) (oi := ⟨some 65, _, _, _, _, _⟩) (v := ?vnp6) rfl (by kernel_rfl) (by kernel_rfl) (by kernel_rfl) (fun _ _ _ h => h) (Or.inl ⟨by rfl, ?hynp6⟩) (by assumption) ?restnp6
        case hynp6 => (intro w hSw; (try dsimp only at hSw); go_simp; try with_reducible rfl)
        try simp only [Act.put, List.setIfInBounds_toArray, List.set_cons_zero, List.set_cons_succ]
        refine wpAnyH_take (i := 7) (oi := ⟨some 66, _, _, _, _, _⟩) (v := ?vnp7) rfl (by kernel_rfl) (by kernel_rfl) (by kernel_rfl) (fun _ _ _ h => h) (Or.inl ⟨by rfl, ?hynp7⟩) (by assumption) ?restnp7
        case hynp7 => (intro w hSw; (try dsimp only at hSw); go_simp; try with_reducible rfl)
        try simp only [Act.put, List.setIfInBounds_toArray, List.set_cons_zero, List.set_cons_succ]
        refine wpAnyH_take (i := 8) (oi := ⟨some 67, _, _, _, _, _⟩) (v := ?vnp8) rfl (by kernel_rfl) (by kernel_rfl) (by kernel_rfl) (fun _ _ _ h => h) (Or.inl ⟨by rfl, ?hynp8⟩) (by assumption) ?restnp8
        case hynp8 => (intro w hSw; (try dsimp only at hSw); go_simp; try with_reducible rfl)
        try simp only [Act.put, List.setIfInBounds_toArray, List.set_cons_zero, List.set_cons_succ]
        refine wpAnyH_take (i := 9) (oi := ⟨some 68, _, _, _, _, _⟩) (v := ?vnp9) rfl (by kernel_rfl) (by kernel_rfl) (by kernel_rfl) (fun _ _ _ h => h) (Or.inl ⟨by rfl, ?hynp9⟩) (by assumption) ?restnp9
        case hynp9 => (intro w hSw; (try dsimp only at hSw); go_simp; try with_reducible rfl)
        try simp only [Act.put, List.setIfInBounds_toArray, List.set_cons_zero, List.set_cons_succ]
        refine wpAnyH_take (i := 10) (oi := ⟨some 69, _, _, _, _, _⟩) (v := ?vnp10) rfl (by kernel_rfl) (by kernel_rfl) (by kernel_rfl) (fun _ _ _ h => h) (Or.inl ⟨by rfl, ?hynp10⟩) (by assumption) ?restnp10
        case hynp10 => (intro w hSw; (try dsimp only at hSw); go_simp; try with_reducible rfl)
        try simp only [Act.put, List.setIfInBounds_toArray, List.set_cons_zero, List.set_cons_succ]
        refine wpAnyH_ready (rs := [0]) (by kernel_rfl) (by simp) ?_
        refine AllReadyH.cons (o := ⟨some 59, _, _, _, _, _⟩) rfl (fun K hK => ?_) AllReadyH.nil
        go_simp
        refine hK.out _ _ ?_ (fun hHeldX => ?_)
        · exact (hBc.cell (p := ⟨b, off + k, none⟩) hbW).trans hx1
        clear hK K hHeld
        rename _ => hHeld
        try simp only [Act.put, List.setIfInBounds_toArray, List.set_cons_zero, List.set_cons_succ]
        refine wpAnyH_ready (rs := [5]) (by kernel_rfl) (by simp) ?_
        refine AllReadyH.cons (o := ⟨some 64, _, _, _, _, _⟩) rfl (fun K hK => ?_) AllReadyH.nil
        go_simp
        refine (set_Without (.agg #[.slice sa sn sc]) G x _ (set1.out.below hBc) (by omega)).mono ?_
        rintro e w2 ⟨r, rfl, hr, hBx⟩
        obtain ⟨a2, n2, c2, rfl⟩ := hr.form
        have hBc := below_step hBc hBx
        go_wp2_with fail
        refine hK.out _ _ ?_ (fun hHeldX => ?_)
        · exact (hBc.cell (p := ⟨b, off + k, none⟩) hbW).trans hx1
        clear hK K hHeld
        rename _ => hHeld
        try simp only [Act.put, List.setIfInBounds_toArray, List.set_cons_zero, List.set_cons_succ]
        refine wpAnyH_ready (rs := [11]) (by kernel_rfl) (by simp) ?_
        refine AllReadyH.cons (o := ⟨some 70, _, _, _, _, _⟩) rfl (fun K hK => ?_) AllReadyH.nil
        go_simp
        refine (ref_Without (.slice ga G.length gc) G x _ (nums1.out.below hBc) (by omega)).mono ?_
        rintro e w3 ⟨r', rfl, hr', hBx⟩
        obtain ⟨ga', gc', rfl, _⟩ := hr'.form
        have hBc := below_step hBc hBx
        have hr := hr.below hBx
        have bx3 := boxed_below box1 hBc p9
        have c93 := bx3.cell
        have f93 := bx3.frozen
        go_wp2_with fail
        refine hK.out _ _ ?_ (fun hHeldX => ?_)
        · exact (hBc.cell (p := ⟨b, off + k, none⟩) hbW).trans hx1
        clear hK K hHeld
        rename _ => hHeld
        try simp only [Act.put, List.setIfInBounds_toArray, List.set_cons_zero, List.set_cons_succ]
        refine wpAnyH_ready (rs := [12]) (by kernel_rfl) (by simp) ?_
        refine AllReadyH.cons (o := ⟨none, _, _, _, _, _⟩) rfl (fun K hK => ?_) AllReadyH.nil
        go_simp
        refine hK.out _ _ ?_ (fun hHeldX => ?_)
        · exact (World.cell?_of_block (w := w3) (Below.heap_setCell _ _ _ _ (fun e => hbP e))).trans ((hBc.cell (p := ⟨b, off + k, none⟩) hbW).trans hx1)
        clear hK K hHeld
        rename _ => hHeld
        try simp only [Act.put, List.setIfInBounds_toArray, List.set_cons_zero, List.set_cons_succ]
        refine wpAnyH_take (i := 13) (oi := ⟨some 10, _, _, _, _, _⟩) (v := ?vnp13) rfl (by kernel_rfl) (by kernel_rfl) (by kernel_rfl) (fun _ _ _ h => h) (Or.inl ⟨by rfl, ?hynp13⟩) (by assumption) ?restnp13
        case hynp13 => (intro w hSw; (try dsimp only at hSw); go_simp; try with_reducible rfl)
        try simp only [Act.put, List.setIfInBounds_toArray, List.set_cons_zero, List.set_cons_succ]
        refine wpAnyH_done (by kernel_rfl) ?_ _
        refine NoPanic.normal ?_
        have hup := set1.out.2
        have hln := woZ_length x G
        have hxG : x ∉ woZ x G := fun h => (mem_woZ.1 h).2 rfl
        have bx4 := bx3.set (.slice a2 n2 c2)
        have bo4 := (boxed_below box12 hBc p12).other (B' := w1.heap.size) (by omega) (.slice a2 n2 c2)
        have set4 := Lib.hid (hr.setBox bx3 (.slice a2 n2 c2))
        have nums4 := Lib.hid (NumsIn.setBox hr' bx3 (.slice a2 n2 c2))
        have old4 := Lib.hid ((set1.out.below hBc).setBox bx3 (.slice a2 n2 c2))
        have want4 := Lib.hid (NumsIn.setBox (nums1.out.below hBc) bx3 (.slice a2 n2 c2))
        have B4 := Lib.hid (((below1.out.trans (hBc.mono (by omega)))).setCell (p := ⟨w1.heap.size, 0, none⟩) (Nat.le_refl _) (.slice a2 n2 c2))
        have ex := (World.cell?_of_block (w := w3) (a := ⟨b, off + k, none⟩) (Below.heap_setCell w3 ⟨w1.heap.size, 0, none⟩ (.slice a2 n2 c2) b (fun e => hbP e))).trans ((hBc.cell (p := ⟨b, off + k, none⟩) hbW).trans hx1)
        have ep := (World.cell?_of_block (w := w3) (a := ⟨pb, poff + k, none⟩) (Below.heap_setCell w3 ⟨w1.heap.size, 0, none⟩ (.slice a2 n2 c2) pb (fun e => hpbP e))).trans ((hBc.cell (p := ⟨pb, poff + k, none⟩) hpW).trans hp1)
        have hz4 : (w3.setCell ⟨w1.heap.size, 0, none⟩ (.slice a2 n2 c2)).heap.size = w3.heap.size := by simp [World.setCell]
        have hz3 := hBc.size
        clear c9 c93 f93 bx3 hr hr' hHeld
        go_wp2_with fail
        generalize w3.setCell ⟨w1.heap.size, 0, none⟩ (.slice a2 n2 c2) = W4 at bx4 bo4 set4 nums4 old4 want4 B4 ex ep hz4 ⊢
        have hBd : Below W4.heap.size W4 W4.drew := (Below.refl _ _).drew
        have e9 := bx4.cell
        have e12 := bo4.cell
        have r9 : w1.heap.size < W4.heap.size := by omega
        have r12 : P12 < W4.heap.size := by omega
        have rb : b < W4.heap.size := by omega
        have rp : pb < W4.heap.size := by omega
        clear hBc
        refine wp_region_noPanic ?_
        refine wp_region_held_drew (S := (fun w' => w'.cell? ⟨w1.heap.size, 0, none⟩ = some (.slice a2 n2 c2) ∧ w'.cell? ⟨P12, 0, none⟩ = some (.slice sa sn sc) ∧ w'.cell? ⟨b, off + k, none⟩ = some (.int .i64 x) ∧ w'.cell? ⟨pb, poff + k, none⟩ = some (.bool false))) (by kernel_rfl) ?_ (fun hHeld => ?_)
        · exact ⟨(hBd.cell (p := ⟨w1.heap.size, 0, none⟩) r9).trans e9, (hBd.cell (p := ⟨P12, 0, none⟩) r12).trans e12, (hBd.cell (p := ⟨b, off + k, none⟩) rb).trans ex, (hBd.cell (p := ⟨pb, poff + k, none⟩) rp).trans ep⟩
        refine wpAnyH_take (i := 0) (oi := ⟨some 71, _, _, _, _, _⟩) (v := ?vnq0) rfl (by kernel_rfl) (by kernel_rfl) (by kernel_rfl) (fun _ _ _ h => h) (Or.inl ⟨by rfl, ?hynq0⟩) (by assumption) ?restnq0
        case hynq0 => (intro w hSw; (try dsimp only at hSw); go_simp; try with_reducible rfl)
        try simp only [Act.put, List.setIfInBounds_toArray, List.set_cons_zero, List.set_cons_succ]
        refine wpAnyH_take (i := 2) (oi := ⟨some 73, _, _, _, _, _⟩) (v := ?vnq2) rfl (by kernel_rfl) (by kernel_rfl) (by kernel_rfl) (fun _ _ _ h => h) (Or.inl ⟨by rfl, ?hynq2⟩) (by assumption) ?restnq2
        case hynq2 => (intro w hSw; (try dsimp only at hSw); go_simp; try with_reducible rfl)
        try simp only [Act.put, List.setIfInBounds_toArray, List.set_cons_zero, List.set_cons_succ]
        refine wpAnyH_ready (rs := [1]) (by kernel_rfl) (by simp) ?_
        refine AllReadyH.cons (o := ⟨some 72, _, _, _, _, _⟩) rfl (fun K hK => ?_) AllReadyH.nil
        go_simp
        refine (law_list (.agg #[.slice a2 n2 c2]) (woZ x G) _ (set4.out.below hBd) (by omega)).mono ?_
        rintro e w' ⟨l1, rfl, hl1, hBx⟩
        have hBd := below_step hBd hBx
        go_wp2_with fail
        refine hK.out _ _ ?_ (fun hHeldX => ?_)
        · exact ⟨(hBd.cell (p := ⟨w1.heap.size, 0, none⟩) r9).trans e9, (hBd.cell (p := ⟨P12, 0, none⟩) r12).trans e12, (hBd.cell (p := ⟨b, off + k, none⟩) rb).trans ex, (hBd.cell (p := ⟨pb, poff + k, none⟩) rp).trans ep⟩
        clear hK K hHeld
        rename _ => hHeld
        try simp only [Act.put, List.setIfInBounds_toArray, List.set_cons_zero, List.set_cons_succ]
        refine wpAnyH_ready (rs := [3]) (by kernel_rfl) (by simp) ?_
        refine AllReadyH.cons (o := ⟨some 74, _, _, _, _, _⟩) rfl (fun K hK => ?_) AllReadyH.nil
        go_simp
        refine (ints_same l1 (.slice ga' (woZ x G).length gc') (woZ x G) (woZ x G) _ hl1 (nums4.out.below hBd) (by omega) rfl).mono ?_
        rintro e w' ⟨rfl, hBx⟩
        have hBd := below_step hBd hBx
        clear hl1
        go_wp2_with fail
        refine hK.out _ _ ?_ (fun hHeldX => ?_)
        · exact ⟨(hBd.cell (p := ⟨w1.heap.size, 0, none⟩) r9).trans e9, (hBd.cell (p := ⟨P12, 0, none⟩) r12).trans e12, (hBd.cell (p := ⟨b, off + k, none⟩) rb).trans ex, (hBd.cell (p := ⟨pb, poff + k, none⟩) rp).trans ep⟩
        clear hK K hHeld
        rename _ => hHeld
        try simp only [Act.put, List.setIfInBounds_toArray, List.set_cons_zero, List.set_cons_succ]
        refine wpAnyH_take (i := 4) (oi := ⟨some 75, _, _, _, _, _⟩) (v := ?vnq4) rfl (by kernel_rfl) (by kernel_rfl) (by kernel_rfl) (fun _ _ _ h => h) (Or.inl ⟨by rfl, ?hynq4⟩) (by assumption) ?restnq4
        case hynq4 => (intro w hSw; (try dsimp only at hSw); go_simp; try with_reducible rfl)
        try simp only [Act.put, List.setIfInBounds_toArray, List.set_cons_zero, List.set_cons_succ]
        refine wpAnyH_take (i := 5) (oi := ⟨some 76, _, _, _, _, _⟩) (v := ?vnq5) rfl (by kernel_rfl) (by kernel_rfl) (by kernel_rfl) (fun _ _ _ h => h) (Or.inl ⟨by rfl, ?hynq5⟩) (by assumption) ?restnq5
        case hynq5 => (intro w hSw; (try dsimp only at hSw); go_simp; try with_reducible rfl)
        try simp only [Act.put, List.setIfInBounds_toArray, List.set_cons_zero, List.set_cons_succ]
        refine wpAnyH_take (i := 6) (oi := ⟨some 77, _, _, _, _, _⟩) (v := ?vnq6) rfl (by kernel_rfl) (by kernel_rfl) (by kernel_rfl) (fun _ _ _ h => h) (Or.inl ⟨by rfl, ?hynq6⟩) (by assumption) ?restnq6
        case hynq6 => (intro w hSw; (try dsimp only at hSw); go_simp; try with_reducible rfl)
        try simp only [Act.put, List.setIfInBounds_toArray, List.set_cons_zero, List.set_cons_succ]
        refine wpAnyH_take (i := 8) (oi := ⟨some 79, _, _, _, _, _⟩) (v := ?vnq8) rfl (by kernel_rfl) (by kernel_rfl) (by kernel_rfl) (fun _ _ _ h => h) (Or.inl ⟨by rfl, ?hynq8⟩) (by assumption) ?restnq8
        case hynq8 => (intro w hSw; (try dsimp only at hSw); go_simp; try with_reducible rfl)
        try simp only [Act.put, List.setIfInBounds_toArray, List.set_cons_zero, List.set_cons_succ]
        refine wpAnyH_take (i := 9) (oi := ⟨some 80, _, _, _, _, _⟩) (v := ?vnq9) rfl (by kernel_rfl) (by kernel_rfl) (by kernel_rfl) (fun _ _ _ h => h) (Or.inl ⟨by rfl, ?hynq9⟩) (by assumption) ?restnq9
        case hynq9 => (intro w hSw; (try dsimp only at hSw); go_simp; try with_reducible rfl)
        try simp only [Act.put, List.setIfInBounds_toArray, List.set_cons_zero, List.set_cons_succ]
        refine wpAnyH_ready (rs := [7]) (by kernel_rfl) (by simp) ?_
        refine AllReadyH.cons (o := ⟨some 78, _, _, _, _, _⟩) rfl (fun K hK => ?_) AllReadyH.nil
        go_simp
        refine (set_Len (.agg #[.slice a2 n2 c2]) (woZ x G) _ (set4.out.below hBd)).mono ?_
        rintro e w' ⟨rfl, hBx⟩
        have hBd := below_step hBd hBx
        go_wp2_with fail
        refine hK.out _ _ ?_ (fun hHeldX => ?_)
        · exact ⟨(hBd.cell (p := ⟨w1.heap.size, 0, none⟩) r9).trans e9, (hBd.cell (p := ⟨P12, 0, none⟩) r12).trans e12, (hBd.cell (p := ⟨b, off + k, none⟩) rb).trans ex, (hBd.cell (p := ⟨pb, poff + k, none⟩) rp).trans ep⟩
        clear hK K hHeld
        rename _ => hHeld
        try simp only [Act.put, List.setIfInBounds_toArray, List.set_cons_zero, List.set_cons_succ]
        refine wpAnyH_take (i := 10) (oi := ⟨some 81, _, _, _, _, _⟩) (v := ?vnq10) rfl (by kernel_rfl) (by kernel_rfl) (by kernel_rfl) (fun _ _ _ h => h) (Or.inl ⟨by rfl, ?hynq10⟩) (by assumption) ?restnq10
        case hynq10 => (intro w hSw; (try dsimp only at hSw); go_simp; try with_reducible rfl)
        try simp only [Act.put, List.setIfInBounds_toArray, List.set_cons_zero, List.set_cons_succ]
        refine wpAnyH_take (i := 11) (oi := ⟨some 82, _, _, _, _, _⟩) (v := ?vnq11) rfl (by kernel_rfl) (by kernel_rfl) (by kernel_rfl) (fun _ _ _ h => h) (Or.inl ⟨by rfl, ?hynq11⟩) (by assumption) ?restnq11
        case hynq11 => (intro w hSw; (try dsimp only at hSw); go_simp; try with_reducible rfl)
        try simp only [Act.put, List.setIfInBounds_toArray, List.set_cons_zero, List.set_cons_succ]
        refine wpAnyH_take (i := 12) (oi := ⟨some 83, _, _, _, _, _⟩) (v := ?vnq12) rfl (by kernel_rfl) (by kernel_rfl) (by kernel_rfl) (fun _ _ _ h => h) (Or.inl ⟨by rfl, ?hynq12⟩) (by assumption) ?restnq12
        case hynq12 => (intro w hSw; (try dsimp only at hSw); go_simp; try with_reducible rfl)
        try simp only [Act.put, List.setIfInBounds_toArray, List.set_cons_zero, List.set_cons_succ]
        refine wpAnyH_take (i := 13) (oi := ⟨some 84, _, _, _, _, _⟩) (v := ?vnq13) rfl (by kernel_rfl) (by kernel_rfl) (by kernel_rfl) (fun _ _ _ h => h) (Or.inl ⟨by rfl, ?hynq13⟩) (by assumption) ?restnq13
        case hynq13 => (intro w hSw; (try dsimp only at hSw); go_simp; try with_reducible rfl)
        try simp only [Act.put, List.setIfInBounds_toArray, List.set_cons_zero, List.set_cons_succ]
        refine wpAnyH_take (i := 15) (oi := ⟨some 86, _, _, _, _, _⟩) (v := ?vnq15) rfl (by kernel_rfl) (by kernel_rfl) (by kernel_rfl) (fun _ _ _ h => h) (Or.inl ⟨by rfl, ?hynq15⟩) (by assumption) ?restnq15
        case hynq15 => (intro w hSw; (try dsimp only at hSw); go_simp; try with_reducible rfl)
        try simp only [Act.put, List.setIfInBounds_toArray, List.set_cons_zero, List.set_cons_succ]
        refine wpAnyH_ready (rs := [14]) (by kernel_rfl) (by simp) ?_
        refine AllReadyH.cons (o := ⟨some 85, _, _, _, _, _⟩) rfl (fun K hK => ?_) AllReadyH.nil
        go_simp
        refine (law_list (.agg #[.slice sa sn sc]) G _ (old4.out.below hBd) (by omega)).mono ?_
        rintro e w' ⟨l2, rfl, hl2, hBx⟩
        have hBd := below_step hBd hBx
        go_wp2_with fail
        refine hK.out _ _ ?_ (fun hHeldX => ?_)
        · exact ⟨(hBd.cell (p := ⟨w1.heap.size, 0, none⟩) r9).trans e9, (hBd.cell (p := ⟨P12, 0, none⟩) r12).trans e12, (hBd.cell (p := ⟨b, off + k, none⟩) rb).trans ex, (hBd.cell (p := ⟨pb, poff + k, none⟩) rp).trans ep⟩
        clear hK K hHeld
        rename _ => hHeld
        try simp only [Act.put, List.setIfInBounds_toArray, List.set_cons_zero, List.set_cons_succ]
        refine wpAnyH_ready (rs := [16]) (by kernel_rfl) (by simp) ?_
        refine AllReadyH.cons (o := ⟨some 87, _, _, _, _, _⟩) rfl (fun K hK => ?_) AllReadyH.nil
        go_simp
        refine (ints_same l2 (.slice ga G.length gc) G G _ hl2 (want4.out.below hBd) (by omega) rfl).mono ?_
        rintro e w' ⟨rfl, hBx⟩
        have hBd := below_step hBd hBx
        clear hl2
        go_wp2_with fail
        refine hK.out _ _ ?_ (fun hHeldX => ?_)
        · exact ⟨(hBd.cell (p := ⟨w1.heap.size, 0, none⟩) r9).trans e9, (hBd.cell (p := ⟨P12, 0, none⟩) r12).trans e12, (hBd.cell (p := ⟨b, off + k, none⟩) rb).trans ex, (hBd.cell (p := ⟨pb, poff + k, none⟩) rp).trans ep⟩
        clear hK K hHeld
        rename _ => hHeld
        try simp only [Act.put, List.setIfInBounds_toArray, List.set_cons_zero, List.set_cons_succ]
        refine wpAnyH_take (i := 17) (oi := ⟨some 88, _, _, _, _, _⟩) (v := ?vnq17) rfl (by kernel_rfl) (by kernel_rfl) (by kernel_rfl) (fun _ _ _ h => h) (Or.inl ⟨by rfl, ?hynq17⟩) (by assumption) ?restnq17
        case hynq17 => (intro w hSw; (try dsimp only at hSw); go_simp; try with_reducible rfl)
        try simp only [Act.put, List.setIfInBounds_toArray, List.set_cons_zero, List.set_cons_succ]
        refine wpAnyH_take (i := 18) (oi := ⟨some 89, _, _, _, _, _⟩) (v := ?vnq18) rfl (by kernel_rfl) (by kernel_rfl) (by kernel_rfl) (fun _ _ _ h => h) (Or.inl ⟨by rfl, ?hynq18⟩) (by assumption) ?restnq18
        case hynq18 => (intro w hSw; (try dsimp only at hSw); go_simp; try with_reducible rfl)
        try simp only [Act.put, List.setIfInBounds_toArray, List.set_cons_zero, List.set_cons_succ]
        refine wpAnyH_take (i := 19) (oi := ⟨some 90, _, _, _, _, _⟩) (v := ?vnq19) rfl (by kernel_rfl) (by kernel_rfl) (by kernel_rfl) (fun _ _ _ h => h) (Or.inl ⟨by rfl, ?hynq19⟩) (by assumption) ?restnq19
        case hynq19 => (intro w hSw; (try dsimp only at hSw); go_simp; try with_reducible rfl)
        try simp only [Act.put, List.setIfInBounds_toArray, List.set_cons_zero, List.set_cons_succ]
        refine wpAnyH_take (i := 20) (oi := ⟨some 91, _, _, _, _, _⟩) (v := ?vnq20) rfl (by kernel_rfl) (by kernel_rfl) (by kernel_rfl) (fun _ _ _ h => h) (Or.inl ⟨by rfl, ?hynq20⟩) (by assumption) ?restnq20
        case hynq20 => (intro w hSw; (try dsimp only at hSw); go_simp; try with_reducible rfl)
        try simp only [Act.put, List.setIfInBounds_toArray, List.set_cons_zero, List.set_cons_succ]
        refine wpAnyH_take (i := 21) (oi := ⟨some 92, _, _, _, _, _⟩) (v := ?vnq21) rfl (by kernel_rfl) (by kernel_rfl) (by kernel_rfl) (fun _ _ _ h => h) (Or.inl ⟨by rfl, ?hynq21⟩) (by assumption) ?restnq21
        case hynq21 => (intro w hSw; (try dsimp only at hSw); go_simp; try with_reducible rfl)
        try simp only [Act.put, List.setIfInBounds_toArray, List.set_cons_zero, List.set_cons_succ]
        refine wpAnyH_take (i := 22) (oi := ⟨some 93, _, _, _, _, _⟩) (v := ?vnq22) rfl (by kernel_rfl) (by kernel_rfl) (by kernel_rfl) (fun _ _ _ h => h) (Or.inl ⟨by rfl, ?hynq22⟩) (by assumption) ?restnq22
        case hynq22 => (intro w hSw; (try dsimp only at hSw); go_simp; try with_reducible rfl)
        try simp only [Act.put, List.setIfInBounds_toArray, List.set_cons_zero, List.set_cons_succ]
        refine wpAnyH_take (i := 23) (oi := ⟨some 94, _, _, _, _, _⟩) (v := ?vnq23) rfl (by kernel_rfl) (by kernel_rfl) (by kernel_rfl) (fun _ _ _ h => h) (Or.inl ⟨by rfl, ?hynq23⟩) (by assumption) ?restnq23
        case hynq23 => (intro w hSw; (try dsimp only at hSw); go_simp; try with_reducible rfl)
        try simp only [Act.put, List.setIfInBounds_toArray, List.set_cons_zero, List.set_cons_succ]
        refine wpAnyH_take (i := 24) (oi := ⟨some 95, _, _, _, _, _⟩) (v := ?vnq24) rfl (by kernel_rfl) (by kernel_rfl) (by kernel_rfl) (fun _ _ _ h => h) (Or.inl ⟨by rfl, ?hynq24⟩) (by assumption) ?restnq24
        case hynq24 => (intro w hSw; (try dsimp only at hSw); go_simp; try with_reducible rfl)
        try simp only [Act.put, List.setIfInBounds_toArray, List.set_cons_zero, List.set_cons_succ]
        refine wpAnyH_take (i := 26) (oi := ⟨some 97, _, _, _, _, _⟩) (v := ?vnq26) rfl (by kernel_rfl) (by kernel_rfl) (by kernel_rfl) (fun _ _ _ h => h) (Or.inl ⟨by rfl, ?hynq26⟩) (by assumption) ?restnq26
        case hynq26 => (intro w hSw; (try dsimp only at hSw); go_simp; try with_reducible rfl)
        try simp only [Act.put, List.setIfInBounds_toArray, List.set_cons_zero, List.set_cons_succ]
        refine wpAnyH_take (i := 27) (oi := ⟨some 98, _, _, _, _, _⟩) (v := ?vnq27) rfl (by kernel_rfl) (by kernel_rfl) (by kernel_rfl) (fun _ _ _ h => h) (Or.inl ⟨by rfl, ?hynq27⟩) (by assumption) ?restnq27
        case hynq27 => (intro w hSw; (try dsimp only at hSw); go_simp; try with_reducible rfl)
        try simp only [Act.put, List.setIfInBounds_toArray, List.set_cons_zero, List.set_cons_succ]
        refine wpAnyH_take (i := 28) (oi := ⟨some 99, _, _, _, _, _⟩) (v := ?vnq28) rfl (by kernel_rfl) (by kernel_rfl) (by kernel_rfl) (fun _ _ _ h => h) (Or.inl ⟨by rfl, ?hynq28⟩) (by assumption) ?restnq28
        case hynq28 => (intro w hSw; (try dsimp only at hSw); go_simp; try with_reducible rfl)
        try simp only [Act.put, List.setIfInBounds_toArray, List.set_cons_zero, List.set_cons_succ]
        refine wpAnyH_take (i := 29) (oi := ⟨some 100, _, _, _, _, _⟩) (v := ?vnq29) rfl (by kernel_rfl) (by kernel_rfl) (by kernel_rfl) (fun _ _ _ h => h) (Or.inl ⟨by rfl, ?hynq29⟩) (by assumption) ?restnq29
        case hynq29 => (intro w hSw; (try dsimp only at hSw); go_simp; try with_reducible rfl)
        try simp only [Act.put, List.setIfInBounds_toArray, List.set_cons_zero, List.set_cons_succ]
        refine wpAnyH_ready (rs := [25]) (by kernel_rfl) (by simp) ?_
        refine AllReadyH.cons (o := ⟨some 96, _, _, _, _, _⟩) rfl (fun K hK => ?_) AllReadyH.nil
        go_simp
        refine (has_no (.agg #[.slice a2 n2 c2]) (woZ x G) x _ (set4.out.below hBd) (by omega) hxG).mono ?_
        rintro e w' ⟨rfl, hBx⟩
        have hBd := below_step hBd hBx
        go_wp2_with fail
        refine hK.out _ _ ?_ (fun hHeldX => ?_)
        · exact ⟨(hBd.cell (p := ⟨w1.heap.size, 0, none⟩) r9).trans e9, (hBd.cell (p := ⟨P12, 0, none⟩) r12).trans e12, (hBd.cell (p := ⟨b, off + k, none⟩) rb).trans ex, (hBd.cell (p := ⟨pb, poff + k, none⟩) rp).trans ep⟩
        clear hK K hHeld
        rename _ => hHeld
        try simp only [Act.put, List.setIfInBounds_toArray, List.set_cons_zero, List.set_cons_succ]
        refine wpAnyH_take (i := 30) (oi := ⟨some 101, _, _, _, _, _⟩) (v := ?vnq30) rfl (by kernel_rfl) (by kernel_rfl) (by kernel_rfl) (fun _ _ _ h => h) (Or.inl ⟨by rfl, ?hynq30⟩) (by assumption) ?restnq30
        case hynq30 => (intro w hSw; (try dsimp only at hSw); go_simp; try with_reducible rfl)
        try simp only [Act.put, List.setIfInBounds_toArray, List.set_cons_zero, List.set_cons_succ]
        refine wpAnyH_take (i := 31) (oi := ⟨some 102, _, _, _, _, _⟩) (v := ?vnq31) rfl (by kernel_rfl) (by kernel_rfl) (by kernel_rfl) (fun _ _ _ h => h) (Or.inl ⟨by rfl, ?hynq31⟩) (by assumption) ?restnq31
        case hynq31 => (intro w hSw; (try dsimp only at hSw); go_simp; try with_reducible rfl)
        try simp only [Act.put, List.setIfInBounds_toArray, List.set_cons_zero, List.set_cons_succ]
        refine wpAnyH_done (by kernel_rfl) ?_ _
        refine NoPanic.normal ?_
        have st5 : Stand w1 w' ga' gc' a2 n2 c2 (woZ x G) := ⟨boxed_below bx4 hBd r9, set4.out.below hBd, nums4.out.below hBd, B4.out.trans (hBd.mono (by omega))⟩
        have ST := Lib.hid st5
        clear hHeld st5 bx4 bo4 hBd e9 e12
        go_wp2
        go_roundw
        case rel => exact ⟨k + 1, woZ x G, ga', gc', a2, n2, c2, by omega, by omega, rfl, by go_num, ST.out⟩
        case measure => simp [intOf]; omega
      · go_wp2_with fail
        generalize wr.alloc (.cells #[.slice sa sn sc] 26) = W1 at box1 box12 set1 nums1 below1 hx1 hp1 hza ⊢
        obtain ⟨P12, HP12⟩ : ∃ P12, P12 = wr.heap.size := ⟨_, rfl⟩
        rw [← HP12] at box12 hza hltb ⊢
        clear HP12 c9r hx0 hp0
        have hbW : b < W1.heap.size := by omega
        have hpW : pb < W1.heap.size := by omega
        have p9 : w1.heap.size < W1.heap.size := by omega
        have p12 : P12 < W1.heap.size := by omega
        have hBc : Below W1.heap.size W1 W1.drew := (Below.refl _ _).drew
        have c9 := box1.cell
        refine wp_region_noPanic ?_
        refine wp_region_held_drew (S := (fun w' => w'.cell? ⟨b, off + k, none⟩ = some (.int .i64 x))) (by kernel_rfl) ?_ (fun hHeld => ?_)
        · exact (hBc.cell (p := ⟨b, off + k, none⟩) hbW).trans hx1
        refine wpAnyH_take (i := 1) (oi := ⟨some 48, _, _, _, _, _⟩) (v := ?vyp1) rfl (by kernel_rfl) (by kernel_rfl) (by kernel_rfl) (fun _ _ _ h => h) (Or.inl ⟨by rfl, ?hyyp1⟩) (by assumption) ?restyp1
        case hyyp1 => (intro w hSw; (try dsimp only at hSw); go_simp; try with_reducible rfl)
        try simp only [Act.put, List.setIfInBounds_toArray, List.set_cons_zero, List.set_cons_succ]
        refine wpAnyH_take (i := 2) (oi := ⟨some 49, _, _, _, _, _⟩) (v := ?vyp2) rfl (by kernel_rfl) (by kernel_rfl) (by kernel_rfl) (fun _ _ _ h => h) (Or.inl ⟨by rfl, ?hyyp2⟩) (by assumption) ?restyp2
        case hyyp2 => (intro w hSw; (try dsimp only at hSw); go_simp; try with_reducible rfl)
        try simp only [Act.put, List.setIfInBounds_toArray, List.set_cons_zero, List.set_cons_succ]
        refine wpAnyH_take (i := 3) (oi := ⟨some 50, _, _, _, _, _⟩) (v := ?vyp3) rfl (by kernel_rfl) (by kernel_rfl) (by kernel_rfl) (fun _ _ _ h => h) (Or.inl ⟨by rfl, ?hyyp3⟩) (by assumption) ?restyp3
        case hyyp3 => (intro w hSw; (try dsimp only at hSw); go_simp; try with_reducible rfl)
        try simp only [Act.put, List.setIfInBounds_toArray, List.set_cons_zero, List.set_cons_succ]
        refine wpAnyH_take (i := 4) (oi := ⟨some 51, _, _, _, _, _⟩) (v := ?vyp4) rfl (by kernel_rfl) (by kernel_rfl) (by kernel_rfl) (fun _ _ _ h => h) (Or.inl ⟨by rfl, ?hyyp4⟩) (by assumption) ?restyp4
        case hyyp4 => (intro w hSw; (try dsimp only at hSw); go_simp; try with_reducible rfl)
        try simp only [Act.put, List.setIfInBounds_toArray, List.set_cons_zero, List.set_cons_succ]
        refine wpAnyH_take (i := 6) (oi := ⟨some 53, _, _, _, _, _⟩) (v := ?vyp6) rfl (by kernel_rfl) (by kernel_rfl) (by kernel_rfl) (fun _ _ _ h => h) (Or.inl ⟨by rfl, ?hyyp6⟩) (by assumption) ?restyp6
        case hyyp6 => (intro w hSw; (try dsimp only at hSw); go_simp; try with_reducible rfl)
        try simp only [Act.put, List.setIfInBounds_toArray, List.set_cons_zero, List.set_cons_succ]
        refine wpAnyH_take (i := 7) (oi := ⟨some 54, _, _, _, _, _⟩) (v := ?vyp7) rfl (by kernel_rfl) (by kernel_rfl) (by kernel_rfl) (fun _ _ _ h => h) (Or.inl ⟨by rfl, ?hyyp7⟩) (by assumption) ?restyp7
        case hyyp7 => (intro w hSw; (try dsimp only at hSw); go_simp; try with_reducible rfl)
        try simp only [Act.put, List.setIfInBounds_toArray, List.set_cons_zero, List.set_cons_succ]
        refine wpAnyH_take (i := 8) (oi := ⟨some 55, _, _, _, _, _⟩) (v := ?vyp8) rfl (by kernel_rfl) (by kernel_rfl) (by kernel_rfl) (fun _ _ _ h => h) (Or.inl ⟨by rfl, ?hyyp8⟩) (by assumption) ?restyp8
        case hyyp8 => (intro w hSw; (try dsimp only at hSw); go_simp; try with_reducible rfl)
        try simp only [Act.put, List.setIfInBounds_toArray, List.set_cons_zero, List.set_cons_succ]
        refine wpAnyH_take (i := 9) (oi := ⟨some 56, _, _, _, _, _⟩) (v := ?vyp9) rfl (by kernel_rfl) (by kernel_rfl) (by kernel_rfl) (fun _ _ _ h => h) (Or.inl ⟨by rfl, ?hyyp9⟩) (by assumption) ?restyp9
        case hyyp9 => (intro w hSw; (try dsimp only at hSw); go_simp; try with_reducible rfl)
        try simp only [Act.put, List.setIfInBounds_toArray, List.set_cons_zero, List.set_cons_succ]
        refine wpAnyH_take (i := 10) (oi := ⟨some 57, _, _, _, _, _⟩) (v := ?vyp10) rfl (by kernel_rfl) (by kernel_rfl) (by kernel_rfl) (fun _ _ _ h => h) (Or.inl ⟨by rfl, ?hyyp10⟩) (by assumption) ?restyp10
        case hyyp10 => (intro w hSw; (try dsimp only at hSw); go_simp; try with_reducible rfl)
        try simp only [Act.put, List.setIfInBounds_toArray, List.set_cons_zero, List.set_cons_succ]
        refine wpAnyH_ready (rs := [0]) (by kernel_rfl) (by simp) ?_
        refine AllReadyH.cons (o := ⟨some 47, _, _, _, _, _⟩) rfl (fun K hK => ?_) AllReadyH.nil
        go_simp
        refine hK.out _ _ ?_ (fun hHeldX => ?_)
        · exact (hBc.cell (p := ⟨b, off + k, none⟩) hbW).trans hx1
        clear hK K hHeld
        rename _ => hHeld
        try simp only [Act.put, List.setIfInBounds_toArray, List.set_cons_zero, List.set_cons_succ]
        refine wpAnyH_ready (rs := [5]) (by kernel_rfl) (by simp) ?_
        refine AllReadyH.cons (o := ⟨some 52, _, _, _, _, _⟩) rfl (fun K hK => ?_) AllReadyH.nil
        go_simp
        refine (set_With (.agg #[.slice sa sn sc]) G x _ (set1.out.below hBc) (by omega)).mono ?_
        rintro e w2 ⟨r, rfl, hr, hBx⟩
        obtain ⟨a2, n2, c2, rfl⟩ := hr.form
        have hBc := below_step hBc hBx
        go_wp2_with fail
        refine hK.out _ _ ?_ (fun hHeldX => ?_)
        · exact (hBc.cell (p := ⟨b, off + k, none⟩) hbW).trans hx1
        clear hK K hHeld
        rename _ => hHeld
        try simp only [Act.put, List.setIfInBounds_toArray, List.set_cons_zero, List.set_cons_succ]
        refine wpAnyH_ready (rs := [11]) (by kernel_rfl) (by simp) ?_
        refine AllReadyH.cons (o := ⟨some 58, _, _, _, _, _⟩) rfl (fun K hK => ?_) AllReadyH.nil
        go_simp
        refine (ref_With (.slice ga G.length gc) G x _ (nums1.out.below hBc) (by omega)).mono ?_
        rintro e w3 ⟨r', rfl, hr', hBx⟩
        obtain ⟨ga', gc', rfl, _⟩ := hr'.form
        have hBc := below_step hBc hBx
        have hr := hr.below hBx
        have bx3 := boxed_below box1 hBc p9
        have c93 := bx3.cell
        have f93 := bx3.frozen
        go_wp2_with fail
        refine hK.out _ _ ?_ (fun hHeldX => ?_)
        · exact (hBc.cell (p := ⟨b, off + k, none⟩) hbW).trans hx1
        clear hK K hHeld
        rename _ => hHeld
        try simp only [Act.put, List.setIfInBounds_toArray, List.set_cons_zero, List.set_cons_succ]
        refine wpAnyH_ready (rs := [12]) (by kernel_rfl) (by simp) ?_
        refine AllReadyH.cons (o := ⟨none, _, _, _, _, _⟩) rfl (fun K hK => ?_) AllReadyH.nil
        go_simp
        refine hK.out _ _ ?_ (fun hHeldX => ?_)
        · exact (World.cell?_of_block (w := w3) (Below.heap_setCell _ _ _ _ (fun e => hbP e))).trans ((hBc.cell (p := ⟨b, off + k, none⟩) hbW).trans hx1)
        clear hK K hHeld
        rename _ => hHeld
        try simp only [Act.put, List.setIfInBounds_toArray, List.set_cons_zero, List.set_cons_succ]
        refine wpAnyH_take (i := 13) (oi := ⟨some 10, _, _, _, _, _⟩) (v := ?vyp13) rfl (by kernel_rfl) (by kernel_rfl) (by kernel_rfl) (fun _ _ _ h => h) (Or.inl ⟨by rfl, ?hyyp13⟩) (by assumption) ?restyp13
        case hyyp13 => (intro w hSw; (try dsimp only at hSw); go_simp; try with_reducible rfl)
        try simp only [Act.put, List.setIfInBounds_toArray, List.set_cons_zero, List.set_cons_succ]
        refine wpAnyH_done (by kernel_rfl) ?_ _
        refine NoPanic.normal ?_
        have hup := set1.out.2
        have hln := withZ_length x G
        have hxG : x ∈ withZ x G := mem_withZ.2 (.inl rfl)
        have bx4 := bx3.set (.slice a2 n2 c2)
        have bo4 := (boxed_below box12 hBc p12).other (B' := w1.heap.size) (by omega) (.slice a2 n2 c2)
        have set4 := Lib.hid (hr.setBox bx3 (.slice a2 n2 c2))
        have nums4 := Lib.hid (NumsIn.setBox hr' bx3 (.slice a2 n2 c2))
        have old4 := Lib.hid ((set1.out.below hBc).setBox bx3 (.slice a2 n2 c2))
        have want4 := Lib.hid (NumsIn.setBox (nums1.out.below hBc) bx3 (.slice a2 n2 c2))
        have B4 := Lib.hid (((below1.out.trans (hBc.mono (by omega)))).setCell (p := ⟨w1.heap.size, 0, none⟩) (Nat.le_refl _) (.slice a2 n2 c2))
        have ex := (World.cell?_of_block (w := w3) (a := ⟨b, off + k, none⟩) (Below.heap_setCell w3 ⟨w1.heap.size, 0, none⟩ (.slice a2 n2 c2) b (fun e => hbP e))).trans ((hBc.cell (p := ⟨b, off + k, none⟩) hbW).trans hx1)
        have ep := (World.cell?_of_block (w := w3) (a := ⟨pb, poff + k, none⟩) (Below.heap_setCell w3 ⟨w1.heap.size, 0, none⟩ (.slice a2 n2 c2) pb (fun e => hpbP e))).trans ((hBc.cell (p := ⟨pb, poff + k, none⟩) hpW).trans hp1)
        have hz4 : (w3.setCell ⟨w1.heap.size, 0, none⟩ (.slice a2 n2 c2)).heap.size = w3.heap.size := by simp [World.setCell]
        have hz3 := hBc.size
        clear c9 c93 f93 bx3 hr hr' hHeld
        go_wp2_with fail
        generalize w3.setCell ⟨w1.heap.size, 0, none⟩ (.slice a2 n2 c2) = W4 at bx4 bo4 set4 nums4 old4 want4 B4 ex ep hz4 ⊢
        have hBd : Below W4.heap.size W4 W4.drew := (Below.refl _ _).drew
        have e9 := bx4.cell
        have e12 := bo4.cell
        have r9 : w1.heap.size < W4.heap.size := by omega
        have r12 : P12 < W4.heap.size := by omega
        have rb : b < W4.heap.size := by omega
        have rp : pb < W4.heap.size := by omega
        clear hBc
        refine wp_region_noPanic ?_
        refine wp_region_held_drew (S := (fun w' => w'.cell? ⟨w1.heap.size, 0, none⟩ = some (.slice a2 n2 c2) ∧ w'.cell? ⟨P12, 0, none⟩ = some (.slice sa sn sc) ∧ w'.cell? ⟨b, off + k, none⟩ = some (.int .i64 x) ∧ w'.cell? ⟨pb, poff + k, none⟩ = some (.bool true))) (by kernel_rfl) ?_ (fun hHeld => ?_)
        · exact ⟨(hBd.cell (p := ⟨w1.heap.size, 0, none⟩) r9).trans e9, (hBd.cell (p := ⟨P12, 0, none⟩) r12).trans e12, (hBd.cell (p := ⟨b, off + k, none⟩) rb).trans ex, (hBd.cell (p := ⟨pb, poff + k, none⟩) rp).trans ep⟩
        refine wpAnyH_take (i := 0) (oi := ⟨some 71, _, _, _, _, _⟩) (v := ?vyq0) rfl (by kernel_rfl) (by kernel_rfl) (by kernel_rfl) (fun _ _ _ h => h) (Or.inl ⟨by rfl, ?hyyq0⟩) (by assumption) ?restyq0
        case hyyq0 => (intro w hSw; (try dsimp only at hSw); go_simp; try with_reducible rfl)
        try simp only [Act.put, List.setIfInBounds_toArray, List.set_cons_zero, List.set_cons_succ]
        refine wpAnyH_take (i := 2) (oi := ⟨some 73, _, _, _, _, _⟩) (v := ?vyq2) rfl (by kernel_rfl) (by kernel_rfl) (by kernel_rfl) (fun _ _ _ h => h) (Or.inl ⟨by rfl, ?hyyq2⟩) (by assumption) ?restyq2
        case hyyq2 => (intro w hSw; (try dsimp only at hSw); go_simp; try with_reducible rfl)
        try simp only [Act.put, List.setIfInBounds_toArray, List.set_cons_zero, List.set_cons_succ]
        refine wpAnyH_ready (rs := [1]) (by kernel_rfl) (by simp) ?_
        refine AllReadyH.cons (o := ⟨some 72, _, _, _, _, _⟩) rfl (fun K hK => ?_) AllReadyH.nil
        go_simp
        refine (law_list (.agg #[.slice a2 n2 c2]) (withZ x G) _ (set4.out.below hBd) (by omega)).mono ?_
        rintro e w' ⟨l1, rfl, hl1, hBx⟩
        have hBd := below_step hBd hBx
        go_wp2_with fail
        refine hK.out _ _ ?_ (fun hHeldX => ?_)
        · exact ⟨(hBd.cell (p := ⟨w1.heap.size, 0, none⟩) r9).trans e9, (hBd.cell (p := ⟨P12, 0, none⟩) r12).trans e12, (hBd.cell (p := ⟨b, off + k, none⟩) rb).trans ex, (hBd.cell (p := ⟨pb, poff + k, none⟩) rp).trans ep⟩
        clear hK K hHeld
        rename _ => hHeld
        try simp only [Act.put, List.setIfInBounds_toArray, List.set_cons_zero, List.set_cons_succ]
        refine wpAnyH_ready (rs := [3]) (by kernel_rfl) (by simp) ?_
        refine AllReadyH.cons (o := ⟨some 74, _, _, _, _, _⟩) rfl (fun K hK => ?_) AllReadyH.nil
        go_simp
        refine (ints_same l1 (.slice ga' (withZ x G).length gc') (withZ x G) (withZ x G) _ hl1 (nums4.out.below hBd) (by omega) rfl).mono ?_
        rintro e w' ⟨rfl, hBx⟩
        have hBd := below_step hBd hBx
        clear hl1
        go_wp2_with fail
        refine hK.out _ _ ?_ (fun hHeldX => ?_)
        · exact ⟨(hBd.cell (p := ⟨w1.heap.size, 0, none⟩) r9).trans e9, (hBd.cell (p := ⟨P12, 0, none⟩) r12).trans e12, (hBd.cell (p := ⟨b, off + k, none⟩) rb).trans ex, (hBd.cell (p := ⟨pb, poff + k, none⟩) rp).trans ep⟩
        clear hK K hHeld
        rename _ => hHeld
        try simp only [Act.put, List.setIfInBounds_toArray, List.set_cons_zero, List.set_cons_succ]
        refine wpAnyH_take (i := 4) (oi := ⟨some 75, _, _, _, _, _⟩) (v := ?vyq4) rfl (by kernel_rfl) (by kernel_rfl) (by kernel_rfl) (fun _ _ _ h => h) (Or.inl ⟨by rfl, ?hyyq4⟩) (by assumption) ?restyq4
        case hyyq4 => (intro w hSw; (try dsimp only at hSw); go_simp; try with_reducible rfl)
        try simp only [Act.put, List.setIfInBounds_toArray, List.set_cons_zero, List.set_cons_succ]
        refine wpAnyH_take (i := 5) (oi := ⟨some 76, _, _, _, _, _⟩) (v := ?vyq5) rfl (by kernel_rfl) (by kernel_rfl) (by kernel_rfl) (fun _ _ _ h => h) (Or.inl ⟨by rfl, ?hyyq5⟩) (by assumption) ?restyq5
        case hyyq5 => (intro w hSw; (try dsimp only at hSw); go_simp; try with_reducible rfl)
        try simp only [Act.put, List.setIfInBounds_toArray, List.set_cons_zero, List.set_cons_succ]
        refine wpAnyH_take (i := 6) (oi := ⟨some 77, _, _, _, _, _⟩) (v := ?vyq6) rfl (by kernel_rfl) (by kernel_rfl) (by kernel_rfl) (fun _ _ _ h => h) (Or.inl ⟨by rfl, ?hyyq6⟩) (by assumption) ?restyq6
        case hyyq6 => (intro w hSw; (try dsimp only at hSw); go_simp; try with_reducible rfl)
        try simp only [Act.put, List.setIfInBounds_toArray, List.set_cons_zero, List.set_cons_succ]
        refine wpAnyH_take (i := 8) (oi := ⟨some 79, _, _, _, _, _⟩) (v := ?vyq8) rfl (by kernel_rfl) (by kernel_rfl) (by kernel_rfl) (fun _ _ _ h => h) (Or.inl ⟨by rfl, ?hyyq8⟩) (by assumption) ?restyq8
        case hyyq8 => (intro w hSw; (try dsimp only at hSw); go_simp; try with_reducible rfl)
        try simp only [Act.put, List.setIfInBounds_toArray, List.set_cons_zero, List.set_cons_succ]
        refine wpAnyH_take (i := 9) (oi := ⟨some 80, _, _, _, _, _⟩) (v := ?vyq9) rfl (by kernel_rfl) (by kernel_rfl) (by kernel_rfl) (fun _ _ _ h => h) (Or.inl ⟨by rfl, ?hyyq9⟩) (by assumption) ?restyq9
        case hyyq9 => (intro w hSw; (try dsimp only at hSw); go_simp; try with_reducible rfl)
        try simp only [Act.put, List.setIfInBounds_toArray, List.set_cons_zero, List.set_cons_succ]
        refine wpAnyH_ready (rs := [7]) (by kernel_rfl) (by simp) ?_
        refine AllReadyH.cons (o := ⟨some 78, _, _, _, _, _⟩) rfl (fun K hK => ?_) AllReadyH.nil
        go_simp
        refine (set_Len (.agg #[.slice a2 n2 c2]) (withZ x G) _ (set4.out.below hBd)).mono ?_
        rintro e w' ⟨rfl, hBx⟩
        have hBd := below_step hBd hBx
        go_wp2_with fail
        refine hK.out _ _ ?_ (fun hHeldX => ?_)
        · exact ⟨(hBd.cell (p := ⟨w1.heap.size, 0, none⟩) r9).trans e9, (hBd.cell (p := ⟨P12, 0, none⟩) r12).trans e12, (hBd.cell (p := ⟨b, off + k, none⟩) rb).trans ex, (hBd.cell (p := ⟨pb, poff + k, none⟩) rp).trans ep⟩
        clear hK K hHeld
        rename _ => hHeld
        try simp only [Act.put, List.setIfInBounds_toArray, List.set_cons_zero, List.set_cons_succ]
        refine wpAnyH_take (i := 10) (oi := ⟨some 81, _, _, _, _, _⟩) (v := ?vyq10) rfl (by kernel_rfl) (by kernel_rfl) (by kernel_rfl) (fun _ _ _ h => h) (Or.inl ⟨by rfl, ?hyyq10⟩) (by assumption) ?restyq10
        case hyyq10 => (intro w hSw; (try dsimp only at hSw); go_simp; try with_reducible rfl)
        try simp only [Act.put, List.setIfInBounds_toArray, List.set_cons_zero, List.set_cons_succ]
        refine wpAnyH_take (i := 11) (oi := ⟨some 82, _, _, _, _, _⟩) (v := ?vyq11) rfl (by kernel_rfl) (by kernel_rfl) (by kernel_rfl) (fun _ _ _ h => h) (Or.inl ⟨by rfl, ?hyyq11⟩) (by assumption) ?restyq11
        case hyyq11 => (intro w hSw; (try dsimp only at hSw); go_simp; try with_reducible rfl)
        try simp only [Act.put, List.setIfInBounds_toArray, List.set_cons_zero, List.set_cons_succ]
        refine wpAnyH_take (i := 12) (oi := ⟨some 83, _, _, _, _, _⟩) (v := ?vyq12) rfl (by kernel_rfl) (by kernel_rfl) (by kernel_rfl) (fun _ _ _ h => h) (Or.inl ⟨by rfl, ?hyyq12⟩) (by assumption) ?restyq12
        case hyyq12 => (intro w hSw; (try dsimp only at hSw); go_simp; try with_reducible rfl)
        try simp only [Act.put, List.setIfInBounds_toArray, List.set_cons_zero, List.set_cons_succ]
        refine wpAnyH_take (i := 13) (oi := ⟨some 84, _, _, _, _, _⟩) (v := ?vyq13) rfl (by kernel_rfl) (by kernel_rfl) (by kernel_rfl) (fun _ _ _ h => h) (Or.inl ⟨by rfl, ?hyyq13⟩) (by assumption) ?restyq13
        case hyyq13 => (intro w hSw; (try dsimp only at hSw); go_simp; try with_reducible rfl)
        try simp only [Act.put, List.setIfInBounds_toArray, List.set_cons_zero, List.set_cons_succ]
        refine wpAnyH_take (i := 15) (oi := ⟨some 86, _, _, _, _, _⟩) (v := ?vyq15) rfl (by kernel_rfl) (by kernel_rfl) (by kernel_rfl) (fun _ _ _ h => h) (Or.inl ⟨by rfl, ?hyyq15⟩) (by assumption) ?restyq15
        case hyyq15 => (intro w hSw; (try dsimp only at hSw); go_simp; try with_reducible rfl)
        try simp only [Act.put, List.setIfInBounds_toArray, List.set_cons_zero, List.set_cons_succ]
        refine wpAnyH_ready (rs := [14]) (by kernel_rfl) (by simp) ?_
        refine AllReadyH.cons (o := ⟨some 85, _, _, _, _, _⟩) rfl (fun K hK => ?_) AllReadyH.nil
        go_simp
        refine (law_list (.agg #[.slice sa sn sc]) G _ (old4.out.below hBd) (by omega)).mono ?_
        rintro e w' ⟨l2, rfl, hl2, hBx⟩
        have hBd := below_step hBd hBx
        go_wp2_with fail
        refine hK.out _ _ ?_ (fun hHeldX => ?_)
        · exact ⟨(hBd.cell (p := ⟨w1.heap.size, 0, none⟩) r9).trans e9, (hBd.cell (p := ⟨P12, 0, none⟩) r12).trans e12, (hBd.cell (p := ⟨b, off + k, none⟩) rb).trans ex, (hBd.cell (p := ⟨pb, poff + k, none⟩) rp).trans ep⟩
        clear hK K hHeld
        rename _ => hHeld
        try simp only [Act.put, List.setIfInBounds_toArray, List.set_cons_zero, List.set_cons_succ]
        refine wpAnyH_ready (rs := [16]) (by kernel_rfl) (by simp) ?_
        refine AllReadyH.cons (o := ⟨some 87, _, _, _, _, _⟩) rfl (fun K hK => ?_) AllReadyH.nil
        go_simp
        refine (ints_same l2 (.slice ga G.length gc) G G _ hl2 (want4.out.below hBd) (by omega) rfl).mono ?_
        rintro e w' ⟨rfl, hBx⟩
        have hBd := below_step hBd hBx
        clear hl2
        go_wp2_with fail
        refine hK.out _ _ ?_ (fun hHeldX => ?_)
        · exact ⟨(hBd.cell (p := ⟨w1.heap.size, 0, none⟩) r9).trans e9, (hBd.cell (p := ⟨P12, 0, none⟩) r12).trans e12, (hBd.cell (p := ⟨b, off + k, none⟩) rb).trans ex, (hBd.cell (p := ⟨pb, poff + k, none⟩) rp).trans ep⟩
        clear hK K hHeld
        rename _ => hHeld
        try simp only [Act.put, List.setIfInBounds_toArray, List.set_cons_zero, List.set_cons_succ]
        refine wpAnyH_take (i := 17) (oi := ⟨some 88, _, _, _, _, _⟩) (v := ?vyq17) rfl (by kernel_rfl) (by kernel_rfl) (by kernel_rfl) (fun _ _ _ h => h) (Or.inl ⟨by rfl, ?hyyq17⟩) (by assumption) ?restyq17
        case hyyq17 => (intro w hSw; (try dsimp only at hSw); go_simp; try with_reducible rfl)
        try simp only [Act.put, List.setIfInBounds_toArray, List.set_cons_zero, List.set_cons_succ]
        refine wpAnyH_take (i := 18) (oi := ⟨some 89, _, _, _, _, _⟩) (v := ?vyq18) rfl (by kernel_rfl) (by kernel_rfl) (by kernel_rfl) (fun _ _ _ h => h) (Or.inl ⟨by rfl, ?hyyq18⟩) (by assumption) ?restyq18
        case hyyq18 => (intro w hSw; (try dsimp only at hSw); go_simp; try with_reducible rfl)
        try simp only [Act.put, List.setIfInBounds_toArray, List.set_cons_zero, List.set_cons_succ]
        refine wpAnyH_take (i := 19) (oi := ⟨some 90, _, _, _, _, _⟩) (v := ?vyq19) rfl (by kernel_rfl) (by kernel_rfl) (by kernel_rfl) (fun _ _ _ h => h) (Or.inl ⟨by rfl, ?hyyq19⟩) (by assumption) ?restyq19
        case hyyq19 => (intro w hSw; (try dsimp only at hSw); go_simp; try with_reducible rfl)
        try simp only [Act.put, List.setIfInBounds_toArray, List.set_cons_zero, List.set_cons_succ]
        refine wpAnyH_take (i := 20) (oi := ⟨some 91, _, _, _, _, _⟩) (v := ?vyq20) rfl (by kernel_rfl) (by kernel_rfl) (by kernel_rfl) (fun _ _ _ h => h) (Or.inl ⟨by rfl, ?hyyq20⟩) (by assumption) ?restyq20
        case hyyq20 => (intro w hSw; (try dsimp only at hSw); go_simp; try with_reducible rfl)
        try simp only [Act.put, List.setIfInBounds_toArray, List.set_cons_zero, List.set_cons_succ]
        refine wpAnyH_take (i := 21) (oi := ⟨some 92, _, _, _, _, _⟩) (v := ?vyq21) rfl (by kernel_rfl) (by kernel_rfl) (by kernel_rfl) (fun _ _ _ h => h) (Or.inl ⟨by rfl, ?hyyq21⟩) (by assumption) ?restyq21
        case hyyq21 => (intro w hSw; (try dsimp only at hSw); go_simp; try with_reducible rfl)
        try simp only [Act.put, List.setIfInBounds_toArray, List.set_cons_zero, List.set_cons_succ]
        refine wpAnyH_take (i := 22) (oi := ⟨some 93, _, _, _, _, _⟩) (v := ?vyq22) rfl (by kernel_rfl) (by kernel_rfl) (by kernel_rfl) (fun _ _ _ h => h) (Or.inl ⟨by rfl, ?hyyq22⟩) (by assumption) ?restyq22
        case hyyq22 => (intro w hSw; (try dsimp only at hSw); go_simp; try with_reducible rfl)
        try simp only [Act.put, List.setIfInBounds_toArray, List.set_cons_zero, List.set_cons_succ]
        refine wpAnyH_take (i := 23) (oi := ⟨some 94, _, _, _, _, _⟩) (v := ?vyq23) rfl (by kernel_rfl) (by kernel_rfl) (by kernel_rfl) (fun _ _ _ h => h) (Or.inl ⟨by rfl, ?hyyq23⟩) (by assumption) ?restyq23
        case hyyq23 => (intro w hSw; (try dsimp only at hSw); go_simp; try with_reducible rfl)
        try simp only [Act.put, List.setIfInBounds_toArray, List.set_cons_zero, List.set_cons_succ]
        refine wpAnyH_take (i := 24) (oi := ⟨some 95, _, _, _, _, _⟩) (v := ?vyq24) rfl (by kernel_rfl) (by kernel_rfl) (by kernel_rfl) (fun _ _ _ h => h) (Or.inl ⟨by rfl, ?hyyq24⟩) (by assumption) ?restyq24
        case hyyq24 => (intro w hSw; (try dsimp only at hSw); go_simp; try with_reducible rfl)
        try simp only [Act.put, List.setIfInBounds_toArray, List.set_cons_zero, List.set_cons_succ]
        refine wpAnyH_take (i := 26) (oi := ⟨some 97, _, _, _, _, _⟩) (v := ?vyq26) rfl (by kernel_rfl) (by kernel_rfl) (by kernel_rfl) (fun _ _ _ h => h) (Or.inl ⟨by rfl, ?hyyq26⟩) (by assumption) ?restyq26
        case hyyq26 => (intro w hSw; (try dsimp only at hSw); go_simp; try with_reducible rfl)
        try simp only [Act.put, List.setIfInBounds_toArray, List.set_cons_zero, List.set_cons_succ]
        refine wpAnyH_take (i := 27) (oi := ⟨some 98, _, _, _, _, _⟩) (v := ?vyq27) rfl (by kernel_rfl) (by kernel_rfl) (by kernel_rfl) (fun _ _ _ h => h) (Or.inl ⟨by rfl, ?hyyq27⟩) (by assumption) ?restyq27
        case hyyq27 => (intro w hSw; (try dsimp only at hSw); go_simp; try with_reducible rfl)
        try simp only [Act.put, List.setIfInBounds_toArray, List.set_cons_zero, List.set_cons_succ]
        refine wpAnyH_take (i := 28) (oi := ⟨some 99, _, _, _, _, _⟩) (v := ?vyq28) rfl (by kernel_rfl) (by kernel_rfl) (by kernel_rfl) (fun _ _ _ h => h) (Or.inl ⟨by rfl, ?hyyq28⟩) (by assumption) ?restyq28
        case hyyq28 => (intro w hSw; (try dsimp only at hSw); go_simp; try with_reducible rfl)
        try simp only [Act.put, List.setIfInBounds_toArray, List.set_cons_zero, List.set_cons_succ]
        refine wpAnyH_take (i := 29) (oi := ⟨some 100, _, _, _, _, _⟩) (v := ?vyq29) rfl (by kernel_rfl) (by kernel_rfl) (by kernel_rfl) (fun _ _ _ h => h) (Or.inl ⟨by rfl, ?hyyq29⟩) (by assumption) ?restyq29
        case hyyq29 => (intro w hSw; (try dsimp only at hSw); go_simp; try with_reducible rfl)
        try simp only [Act.put, List.setIfInBounds_toArray, List.set_cons_zero, List.set_cons_succ]
        refine wpAnyH_ready (rs := [25]) (by kernel_rfl) (by simp) ?_
        refine AllReadyH.cons (o := ⟨some 96, _, _, _, _, _⟩) rfl (fun K hK => ?_) AllReadyH.nil
        go_simp
        refine (has_yes (.agg #[.slice a2 n2 c2]) (withZ x G) x _ (set4.out.below hBd) (by omega) hxG).mono ?_
        rintro e w' ⟨rfl, hBx⟩
        have hBd := below_step hBd hBx
        go_wp2_with fail
        refine hK.out _ _ ?_ (fun hHeldX => ?_)
        · exact ⟨(hBd.cell (p := ⟨w1.heap.size, 0, none⟩) r9).trans e9, (hBd.cell (p := ⟨P12, 0, none⟩) r12).trans e12, (hBd.cell (p := ⟨b, off + k, none⟩) rb).trans ex, (hBd.cell (p := ⟨pb, poff + k, none⟩) rp).trans ep⟩
        clear hK K hHeld
        rename _ => hHeld
        try simp only [Act.put, List.setIfInBounds_toArray, List.set_cons_zero, List.set_cons_succ]
        refine wpAnyH_take (i := 30) (oi := ⟨some 101, _, _, _, _, _⟩) (v := ?vyq30) rfl (by kernel_rfl) (by kernel_rfl) (by kernel_rfl) (fun _ _ _ h => h) (Or.inl ⟨by rfl, ?hyyq30⟩) (by assumption) ?restyq30
        case hyyq30 => (intro w hSw; (try dsimp only at hSw); go_simp; try with_reducible rfl)
        try simp only [Act.put, List.setIfInBounds_toArray, List.set_cons_zero, List.set_cons_succ]
        refine wpAnyH_take (i := 31) (oi := ⟨some 102, _, _, _, _, _⟩) (v := ?vyq31) rfl (by kernel_rfl) (by kernel_rfl) (by kernel_rfl) (fun _ _ _ h => h) (Or.inl ⟨by rfl, ?hyyq31⟩) (by assumption) ?restyq31
        case hyyq31 => (intro w hSw; (try dsimp only at hSw); go_simp; try with_reducible rfl)
        try simp only [Act.put, List.setIfInBounds_toArray, List.set_cons_zero, List.set_cons_succ]
        refine wpAnyH_done (by kernel_rfl) ?_ _
        refine NoPanic.normal ?_
        have st5 : Stand w1 w' ga' gc' a2 n2 c2 (withZ x G) := ⟨boxed_below bx4 hBd r9, set4.out.below hBd, nums4.out.below hBd, B4.out.trans (hBd.mono (by omega))⟩
        have ST := Lib.hid st5
        clear hHeld st5 bx4 bo4 hBd e9 e12
        go_wp2
        go_roundw
        case rel => exact ⟨k + 1, withZ x G, ga', gc', a2, n2, c2, by omega, by omega, rfl, by go_num, ST.out⟩
        case measure => simp [intOf]; omega
    · obtain ⟨wE, hwE⟩ : ∃ wE, wE = wr := ⟨_, rfl⟩
      subst hwE
      have SE0 := Lib.hid st.set
      have NE0 := Lib.hid st.nums
      have bxE := st.box
      have UPG := Lib.hid st.set.2
      obtain ⟨na, nc, hnf, NF⟩ := st.nums.form
      cases hnf
      have NFH := Lib.hid NF
      clear NF
      have hlen : G.length ≤ 300 := by omega
      clear st
      go_wp2
      go_loopw [14, 16] (fun h i w' => ∃ (j : Nat), j ≤ G.length ∧ h = .bool (decide (x0 ∈ G.take j)) ∧ i = .int .i64 j ∧ w' = wE) (fun _ i _ => G.length - (intOf i).toNat)
      case atStart => exact ⟨0, Nat.zero_le _, by simp, rfl, rfl⟩
      case round =>
        obtain ⟨j, hj, rfl, rfl, hwE⟩ := hrel
        have hwE := hwE.symm
        subst hwE
        by_cases hjl : j < G.length
        · obtain ⟨b, off, rfl, hb, hy⟩ := NFH.out j hjl
          have ht : G.take (j + 1) = G.take j ++ [G.getD j 0] := by rw [getD_at hjl, List.take_succ_eq_append_getElem hjl]
          generalize G.getD j 0 = y at hy ht
          have T := Lib.hid ht
          clear ht
          by_cases hin : x0 ∈ G.take j
          · have HI := Lib.hid (decide_eq_true hin)
            rw [HI.out]
            go_wp2
            go_roundw
            case rel =>
              refine ⟨j + 1, by omega, ?_, by go_num, by first | rfl | trivial⟩
              rw [T.out, decide_eq_true (List.mem_append.2 (.inl hin))]
            case measure => simp [intOf]; omega
          · have HI := Lib.hid (decide_eq_false hin)
            rw [HI.out]
            by_cases hy0 : y = x0
            · subst hy0
              go_wp2
              go_roundw
              case rel =>
                refine ⟨j + 1, by omega, ?_, by go_num, by first | rfl | trivial⟩
                rw [T.out]; simp
              case measure => simp [intOf]; omega
            · have hy1 : (y == x0) = false := by simpa using hy0
              go_wp2
              go_roundw
              case rel =>
                refine ⟨j + 1, by omega, ?_, by go_num, by first | rfl | trivial⟩
                have : decide (x0 ∈ G.take (j + 1)) = false := decide_eq_false (by
                  rw [T.out, List.mem_append, List.mem_singleton]
                  rintro (h | h)
                  · exact hin h
                  · exact hy0 h.symm)
                rw [this]
              case measure => simp [intOf]; omega
        · have hall : G.take j = G := List.take_of_length_le (by omega)
          rw [hall]
          generalize hHas : decide (x0 ∈ G) = hb
          have HH := Lib.hid hHas
          clear hHas hall
          go_wp2
          go_loopw [15, 17] (fun o i w' => ∃ (j2 : Nat) (ba : Option Addr) (bc : Nat), j2 ≤ Lo.length ∧ o = .slice ba (foldW G (Lo.take j2)).length bc ∧ i = .int .i64 j2 ∧ NumsIn w' (.slice ba (foldW G (Lo.take j2)).length bc) (foldW G (Lo.take j2)) ∧ Below wE.heap.size wE w') (fun _ i _ => Lo.length - (intOf i).toNat)
          case atStart => exact ⟨0, _, _, Nat.zero_le _, rfl, rfl, NE0.out, Below.refl _ _⟩
          case round =>
            obtain ⟨j2, ba, bc, hj2, rfl, rfl, hnb, hBl⟩ := hrel
            have NB := Lib.hid hnb
            clear hnb
            by_cases hj2l : j2 < Lo.length
            · obtain ⟨b, off, rfl, hb, hy⟩ := HO.out.at j2 hj2l
              have hy := ((BR.out.trans (hBl.mono (by have := BR.out.size; omega))).cell (p := ⟨b, off + j2, none⟩) hb).trans hy
              have ht : Lo.take (j2 + 1) = Lo.take j2 ++ [Lo[j2]] := List.take_succ_eq_append_getElem hj2l
              generalize Lo[j2] = y at hy ht
              have T := Lib.hid ht
              have hfl := (foldW_facts G UPG.out (Lo.take j2)).2.2
              have hfl2 : (foldW G (Lo.take j2)).length ≤ 1000000 := by simp at hfl; omega
              clear ht hfl
              go_wp2_with fail
              refine (ref_With _ _ y _ NB.out hfl2).mono ?_
              rintro e w5 ⟨r, rfl, hr, hB5⟩
              obtain ⟨ba', bc', rfl, _⟩ := hr.form
              have R5 := Lib.hid hr
              have B5 := Lib.hid (below_step hBl hB5)
              clear hr hB5
              go_wp2
              go_roundw
              case rel =>
                refine ⟨j2 + 1, ba', bc', by omega, ?_, by go_num, ?_, B5.out⟩
                · rw [T.out, foldW_snoc]
                · rw [T.out, foldW_snoc]; exact R5.out
              case measure => simp [intOf]; omega
            · have hall : Lo.take j2 = Lo := List.take_of_length_le (by omega)
              rw [hall] at NB ⊢
              clear hall
              have hfl := (foldW_facts G UPG.out Lo).2.2
              have hof := ofZ_length Lo
              have e9 := (boxed_below bxE hBl hltb).cell
              have SE := Lib.hid (SE0.out.below hBl)
              have NE := Lib.hid (NE0.out.below hBl)
              have OE := Lib.hid ((ListIn.arg (cap := oc) HO.out).below (below_step BR.out hBl))
              have BE := Lib.hid NB.out
              have r9 : w1.heap.size < wr.heap.size := by have := hBl.size; omega
              have BF := Lib.hid (below_step BR.out hBl)
              have hBe : Below wr.heap.size wr wr.drew := (Below.refl _ _).drew
              rw [← HH.out]
              go_wp2_with fail
              refine wp_region_noPanic ?_
              refine wp_region_held_drew (S := (fun w' => w'.cell? ⟨w1.heap.size, 0, none⟩ = some (.slice sa sn sc))) (by kernel_rfl) ?_ (fun hHeld => ?_)
              · exact (hBe.cell (p := ⟨w1.heap.size, 0, none⟩) r9).trans e9
              refine wpAnyH_take (i := 0) (oi := ⟨some 131, _, _, _, _, _⟩) (v := ?vz0) rfl (by kernel_rfl) (by kernel_rfl) (by kernel_rfl) (fun _ _ _ h => h) (Or.inl ⟨by rfl, ?hyz0⟩) (by assumption) ?restz0
              case hyz0 => (intro w hSw; (try dsimp only at hSw); go_simp; try with_reducible rfl)
              try simp only [Act.put, List.setIfInBounds_toArray, List.set_cons_zero, List.set_cons_succ]
              refine wpAnyH_take (i := 1) (oi := ⟨some 132, _, _, _, _, _⟩) (v := ?vz1) rfl (by kernel_rfl) (by kernel_rfl) (by kernel_rfl) (fun _ _ _ h => h) (Or.inl ⟨by rfl, ?hyz1⟩) (by assumption) ?restz1
              case hyz1 => (intro w hSw; (try dsimp only at hSw); go_simp; try with_reducible rfl)
              try simp only [Act.put, List.setIfInBounds_toArray, List.set_cons_zero, List.set_cons_succ]
              refine wpAnyH_take (i := 3) (oi := ⟨some 134, _, _, _, _, _⟩) (v := ?vz3) rfl (by kernel_rfl) (by kernel_rfl) (by kernel_rfl) (fun _ _ _ h => h) (Or.inl ⟨by rfl, ?hyz3⟩) (by assumption) ?restz3
              case hyz3 => (intro w hSw; (try dsimp only at hSw); go_simp; try with_reducible rfl)
              try simp only [Act.put, List.setIfInBounds_toArray, List.set_cons_zero, List.set_cons_succ]
              refine wpAnyH_ready (rs := [2]) (by kernel_rfl) (by simp) ?_
              refine AllReadyH.cons (o := ⟨some 133, _, _, _, _, _⟩) rfl (fun K hK => ?_) AllReadyH.nil
              go_simp
              refine (set_Has (.agg #[.slice sa sn sc]) G x0 _ (SE.out.below hBe) (by omega)).mono ?_
              rintro e w' ⟨rfl, hBx⟩
              have hBe := below_step hBe hBx
              go_wp2_with fail
              refine hK.out _ _ ?_ (fun hHeldX => ?_)
              · exact (hBe.cell (p := ⟨w1.heap.size, 0, none⟩) r9).trans e9
              clear hK K hHeld
              rename _ => hHeld
              try simp only [Act.put, List.setIfInBounds_toArray, List.set_cons_zero, List.set_cons_succ]
              refine wpAnyH_take (i := 4) (oi := ⟨some 135, _, _, _, _, _⟩) (v := ?vz4) rfl (by kernel_rfl) (by kernel_rfl) (by kernel_rfl) (fun _ _ _ h => h) (Or.inl ⟨by rfl, ?hyz4⟩) (by assumption) ?restz4
              case hyz4 => (intro w hSw; (try dsimp only at hSw); go_simp; try with_reducible rfl)
              try simp only [Act.put, List.setIfInBounds_toArray, List.set_cons_zero, List.set_cons_succ]
              refine wpAnyH_take (i := 5) (oi := ⟨some 136, _, _, _, _, _⟩) (v := ?vz5) rfl (by kernel_rfl) (by kernel_rfl) (by kernel_rfl) (fun _ _ _ h => h) (Or.inl ⟨by rfl, ?hyz5⟩) (by assumption) ?restz5
              case hyz5 => (intro w hSw; (try dsimp only at hSw); go_simp; try with_reducible rfl)
              try simp only [Act.put, List.setIfInBounds_toArray, List.set_cons_zero, List.set_cons_succ]
              refine wpAnyH_take (i := 6) (oi := ⟨some 137, _, _, _, _, _⟩) (v := ?vz6) rfl (by kernel_rfl) (by kernel_rfl) (by kernel_rfl) (fun _ _ _ h => h) (Or.inl ⟨by rfl, ?hyz6⟩) (by assumption) ?restz6
              case hyz6 => (intro w hSw; (try dsimp only at hSw); go_simp; try with_reducible rfl)
              try simp only [Act.put, List.setIfInBounds_toArray, List.set_cons_zero, List.set_cons_succ]
              refine wpAnyH_take (i := 7) (oi := ⟨some 138, _, _, _, _, _⟩) (v := ?vz7) rfl (by kernel_rfl) (by kernel_rfl) (by kernel_rfl) (fun _ _ _ h => h) (Or.inl ⟨by rfl, ?hyz7⟩) (by assumption) ?restz7
              case hyz7 => (intro w hSw; (try dsimp only at hSw); go_simp; try with_reducible rfl)
              try simp only [Act.put, List.setIfInBounds_toArray, List.set_cons_zero, List.set_cons_succ]
              refine wpAnyH_take (i := 11) (oi := ⟨some 142, _, _, _, _, _⟩) (v := ?vz11) rfl (by kernel_rfl) (by kernel_rfl) (by kernel_rfl) (fun _ _ _ h => h) (Or.inl ⟨by rfl, ?hyz11⟩) (by assumption) ?restz11
              case hyz11 => (intro w hSw; (try dsimp only at hSw); go_simp; try with_reducible rfl)
              try simp only [Act.put, List.setIfInBounds_toArray, List.set_cons_zero, List.set_cons_succ]
              refine wpAnyH_ready (rs := [8]) (by kernel_rfl) (by simp) ?_
              refine AllReadyH.cons (o := ⟨some 139, _, _, _, _, _⟩) rfl (fun K hK => ?_) AllReadyH.nil
              go_simp
              refine (set_Of (.slice oa Lo.length oc) Lo _ (OE.out.below hBe) (by omega)).mono ?_
              rintro e w' ⟨r1, rfl, hr1, hBx⟩
              have hBe := below_step hBe hBx
              go_wp2_with fail
              refine hK.out _ _ ?_ (fun hHeldX => ?_)
              · exact (hBe.cell (p := ⟨w1.heap.size, 0, none⟩) r9).trans e9
              clear hK K hHeld
              rename _ => hHeld
              try simp only [Act.put, List.setIfInBounds_toArray, List.set_cons_zero, List.set_cons_succ]
              refine wpAnyH_ready (rs := [9]) (by kernel_rfl) (by simp) ?_
              refine AllReadyH.cons (o := ⟨some 140, _, _, _, _, _⟩) rfl (fun K hK => ?_) AllReadyH.nil
              go_simp
              refine (set_Join (.agg #[.slice sa sn sc]) r1 G (ofZ Lo) _ (SE.out.below hBe) hr1 (by omega)).mono ?_
              rintro e w' ⟨r2, rfl, hr2, hBx⟩
              have hBe := below_step hBe hBx
              rw [join_fold SE.out.2] at hr2
              go_wp2_with fail
              refine hK.out _ _ ?_ (fun hHeldX => ?_)
              · exact (hBe.cell (p := ⟨w1.heap.size, 0, none⟩) r9).trans e9
              clear hK K hHeld
              rename _ => hHeld
              try simp only [Act.put, List.setIfInBounds_toArray, List.set_cons_zero, List.set_cons_succ]
              refine wpAnyH_ready (rs := [10]) (by kernel_rfl) (by simp) ?_
              refine AllReadyH.cons (o := ⟨some 141, _, _, _, _, _⟩) rfl (fun K hK => ?_) AllReadyH.nil
              go_simp
              refine (law_list r2 (foldW G Lo) _ hr2 (by omega)).mono ?_
              rintro e w' ⟨l1, rfl, hl1, hBx⟩
              have hBe := below_step hBe hBx
              go_wp2_with fail
              refine hK.out _ _ ?_ (fun hHeldX => ?_)
              · exact (hBe.cell (p := ⟨w1.heap.size, 0, none⟩) r9).trans e9
              clear hK K hHeld
              rename _ => hHeld
              try simp only [Act.put, List.setIfInBounds_toArray, List.set_cons_zero, List.set_cons_succ]
              refine wpAnyH_ready (rs := [12]) (by kernel_rfl) (by simp) ?_
              refine AllReadyH.cons (o := ⟨some 143, _, _, _, _, _⟩) rfl (fun K hK => ?_) AllReadyH.nil
              go_simp
              refine (ints_same l1 (.slice ba (foldW G Lo).length bc) (foldW G Lo) (foldW G Lo) _ hl1 (BE.out.below hBe) (by omega) rfl).mono ?_
              rintro e w' ⟨rfl, hBx⟩
              have hBe := below_step hBe hBx
              clear hl1 hr1 hr2
              go_wp2_with fail
              refine hK.out _ _ ?_ (fun hHeldX => ?_)
              · exact (hBe.cell (p := ⟨w1.heap.size, 0, none⟩) r9).trans e9
              clear hK K hHeld
              rename _ => hHeld
              try simp only [Act.put, List.setIfInBounds_toArray, List.set_cons_zero, List.set_cons_succ]
              refine wpAnyH_take (i := 13) (oi := ⟨some 144, _, _, _, _, _⟩) (v := ?vz13) rfl (by kernel_rfl) (by kernel_rfl) (by kernel_rfl) (fun _ _ _ h => h) (Or.inl ⟨by rfl, ?hyz13⟩) (by assumption) ?restz13
              case hyz13 => (intro w hSw; (try dsimp only at hSw); go_simp; try with_reducible rfl)
              try simp only [Act.put, List.setIfInBounds_toArray, List.set_cons_zero, List.set_cons_succ]
              refine wpAnyH_take (i := 14) (oi := ⟨some 145, _, _, _, _, _⟩) (v := ?vz14) rfl (by kernel_rfl) (by kernel_rfl) (by kernel_rfl) (fun _ _ _ h => h) (Or.inl ⟨by rfl, ?hyz14⟩) (by assumption) ?restz14
              case hyz14 => (intro w hSw; (try dsimp only at hSw); go_simp; try with_reducible rfl)
              try simp only [Act.put, List.setIfInBounds_toArray, List.set_cons_zero, List.set_cons_succ]
              refine wpAnyH_take (i := 15) (oi := ⟨some 146, _, _, _, _, _⟩) (v := ?vz15) rfl (by kernel_rfl) (by kernel_rfl) (by kernel_rfl) (fun _ _ _ h => h) (Or.inl ⟨by rfl, ?hyz15⟩) (by assumption) ?restz15
              case hyz15 => (intro w hSw; (try dsimp only at hSw); go_simp; try with_reducible rfl)
              try simp only [Act.put, List.setIfInBounds_toArray, List.set_cons_zero, List.set_cons_succ]
              refine wpAnyH_take (i := 17) (oi := ⟨some 148, _, _, _, _, _⟩) (v := ?vz17) rfl (by kernel_rfl) (by kernel_rfl) (by kernel_rfl) (fun _ _ _ h => h) (Or.inl ⟨by rfl, ?hyz17⟩) (by assumption) ?restz17
              case hyz17 => (intro w hSw; (try dsimp only at hSw); go_simp; try with_reducible rfl)
              try simp only [Act.put, List.setIfInBounds_toArray, List.set_cons_zero, List.set_cons_succ]
              refine wpAnyH_ready (rs := [16]) (by kernel_rfl) (by simp) ?_
              refine AllReadyH.cons (o := ⟨some 147, _, _, _, _, _⟩) rfl (fun K hK => ?_) AllReadyH.nil
              go_simp
              refine (law_list (.agg #[.slice sa sn sc]) G _ (SE.out.below hBe) (by omega)).mono ?_
              rintro e w' ⟨l2, rfl, hl2, hBx⟩
              have hBe := below_step hBe hBx
              go_wp2_with fail
              refine hK.out _ _ ?_ (fun hHeldX => ?_)
              · exact (hBe.cell (p := ⟨w1.heap.size, 0, none⟩) r9).trans e9
              clear hK K hHeld
              rename _ => hHeld
              try simp only [Act.put, List.setIfInBounds_toArray, List.set_cons_zero, List.set_cons_succ]
              refine wpAnyH_ready (rs := [18]) (by kernel_rfl) (by simp) ?_
              refine AllReadyH.cons (o := ⟨some 149, _, _, _, _, _⟩) rfl (fun K hK => ?_) AllReadyH.nil
              go_simp
              refine (ints_same l2 (.slice ga G.length gc) G G _ hl2 (NE.out.below hBe) (by omega) rfl).mono ?_
              rintro e w' ⟨rfl, hBx⟩
              have hBe := below_step hBe hBx
              go_wp2_with fail
              refine hK.out _ _ ?_ (fun hHeldX => ?_)
              · exact (hBe.cell (p := ⟨w1.heap.size, 0, none⟩) r9).trans e9
              clear hK K hHeld
              rename _ => hHeld
              try simp only [Act.put, List.setIfInBounds_toArray, List.set_cons_zero, List.set_cons_succ]
              refine wpAnyH_take (i := 19) (oi := ⟨some 150, _, _, _, _, _⟩) (v := ?vz19) rfl (by kernel_rfl) (by kernel_rfl) (by kernel_rfl) (fun _ _ _ h => h) (Or.inl ⟨by rfl, ?hyz19⟩) (by assumption) ?restz19
              case hyz19 => (intro w hSw; (try dsimp only at hSw); go_simp; try with_reducible rfl)
              try simp only [Act.put, List.setIfInBounds_toArray, List.set_cons_zero, List.set_cons_succ]
              refine wpAnyH_take (i := 20) (oi := ⟨some 8, _, _, _, _, _⟩) (v := ?vz20) rfl (by kernel_rfl) (by kernel_rfl) (by kernel_rfl) (fun _ _ _ h => h) (Or.inl ⟨by rfl, ?hyz20⟩) (by assumption) ?restz20
              case hyz20 => (intro w hSw; (try dsimp only at hSw); go_simp; try with_reducible rfl)
              try simp only [Act.put, List.setIfInBounds_toArray, List.set_cons_zero, List.set_cons_succ]
              refine wpAnyH_done (by kernel_rfl) ?_ _
              refine NoPanic.normal ?_
              go_wp2
              go_ret
              exact ⟨rfl, below_step BF.out hBe⟩

theorem sets_early (a pa oa : Option Addr) (cap pcap oc : Nat) (n np no : Nat) (x0 : Int) (w : World) (h : 300 < n ∨ (¬ 300 < n ∧ np < n) ∨ (¬ 300 < n ∧ ¬ np < n ∧ 300 < no)) :
    Calls Try.prog 3 #[.slice a n cap, .slice pa np pcap, .slice oa no oc, .int .i64 x0] w fun e w' => e = .returned (.bool true) ∧ Below w.heap.size w w' := by
  rcases h with h1 | ⟨h1, h2⟩ | ⟨h1, h2, h3⟩
  all_goals
    go_enter Try.func3, Try.ntmps3
    go_wp2_with fail
    refine (awake3 _).mono ?_
    rintro e w1 ⟨rfl, hB⟩
    go_wp2
    go_ret
    exact ⟨rfl, hB⟩
theorem sets_any (a pa oa : Option Addr) (cap pcap oc : Nat) (L : List Int) (Lp : List Bool) (Lo : List Int) (x0 : Int) (w : World) (h : ListIn numV w a L) (hp : ListIn Value.bool w pa Lp) (ho : ListIn numV w oa Lo) :
    Calls Try.prog 3 #[.slice a L.length cap, .slice pa Lp.length pcap, .slice oa Lo.length oc, .int .i64 x0] w fun e w' => e = .returned (.bool true) ∧ Below w.heap.size w w' := by
  by_cases h1 : 300 < L.length
  · exact sets_early a pa oa cap pcap oc _ _ _ x0 w (.inl h1)
  · by_cases h2 : Lp.length < L.length
    · exact sets_early a pa oa cap pcap oc _ _ _ x0 w (.inr (.inl ⟨h1, h2⟩))
    · by_cases h3 : 300 < Lo.length
      · exact sets_early a pa oa cap pcap oc _ _ _ x0 w (.inr (.inr ⟨h1, h2, h3⟩))
      · exact sets_main a pa oa cap pcap oc L Lp Lo x0 w h hp ho (by omega) (by omega) (by omega)

end Go.Proofs.Ytlfehhegkpoojaa
