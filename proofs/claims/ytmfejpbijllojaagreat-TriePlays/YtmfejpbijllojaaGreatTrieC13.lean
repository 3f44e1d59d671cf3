/- Layer 13 (package trie): what a node becomes when the one at a path is changed. Made by tools/gen_triec13.py. -/
import Derived.Test.YtmfejpbijllojaaGreatTrieI13
import Derived.Deep.RegionHeld3
import Derived.Deep.CutBlock
namespace Go.Proofs.YtmfejpbijllojaaGreat
open Go.RowKit Go.Shelf

/-- Which change, and what it does to the subscribers. -/
def ChF (x : Int) (g : Nat) (h : List Int → List Int) : Prop := (g = 26 ∧ h = withZ x) ∨ (g = 23 ∧ h = woZ x)
theorem ChF.up {x : Int} {g : Nat} {h : List Int → List Int} (hg : ChF x g h) : ∀ L, Up L → Up (h L) := by
  rcases hg with ⟨_, rfl⟩ | ⟨_, rfl⟩
  · exact fun L hL => up_withZ hL
  · exact fun L hL => up_woZ hL
def Changes (S : Nat → Prop) (g : Nat) (x : Int) (h : List Int → List Int) (ls : List Key) : Prop :=
  ∀ (o : Nd) (a : Option Addr) (cap : Nat) (w : World), (∀ k, w.heap.size ≤ k → ¬ S k) → NodeIs S w o → okN o → (∀ p, (subZ o p).length ≤ 1000) → ndN o + ls.length ≤ 4000 → TextsIn w a ls → ls.length ≤ cap →
    Calls Tryz.prog 21 #[ndP o, .slice a ls.length cap, .int .i64 x, .func (.func g) #[] #[]] w fun e w' =>
      ∃ o', e = .returned (ndP o') ∧ Chg h ls o o' ∧ NodeIs S w' o' ∧ Below w.heap.size w w'

abbrev setK (F : Fo) (k : Key) (b : Nat) (L : List Int) (G : Fo) : Fo := if bareB L G then F.drop k else F.put k b L G
theorem chg_some {h : List Int → List Int} : ∀ {p : List Key} {o q : Nd}, Chg h p o q → ∃ b L F, q = some (b, L, F)
  | [], _, _, ⟨b, e⟩ => ⟨b, _, _, e⟩
  | _ :: _, _, _, ⟨b, _, _, _, _, e⟩ => ⟨b, _, _, e⟩
theorem kid_facts {S : Nat → Prop} {W : World} {F Fq : Fo} {k : Key} {bq : Nat} {Lq : List Int} (hF : FoIs S W F) (hok : F.ok) (hq : NodeIs S W (some (bq, Lq, Fq))) (hN : F.sz + Fq.sz ≤ 9900) :
    FoIs S W (setK F k bq Lq Fq) ∧ ((Lq = [] ∧ Fq.ents = [] ∧ (setK F k bq Lq Fq).ents = dropE k F.ents) ∨ (¬ (Lq = [] ∧ Fq.ents = []) ∧ ∃ x, ndP (some (bq, Lq, Fq)) = ptrV x ∧ (setK F k bq Lq Fq).ents = putE k x F.ents)) ∧
      (∀ p ∈ (setK F k bq Lq Fq).ents, (∃ L E, PIs S W (ptrV p.2) L E (zfW W p.2)) ∧ zfW W p.2 ≤ 10000) := by
  have h1 : FoIs S W (setK F k bq Lq Fq) := by
    unfold setK
    split
    · exact FoIs.drop k hF
    · exact FoIs.put hq.1 hq.2 hF
  have hz : (setK F k bq Lq Fq).sz ≤ 10000 := by
    have a := sz_drop k hok
    have b := sz_put (k := k) (b := bq) (L := Lq) (G := Fq) hok
    unfold setK
    split <;> omega
  refine ⟨h1, ?_, fun p hp => ⟨(h1.each p hp).1, Nat.le_trans (h1.each p hp).2 hz⟩⟩
  by_cases hb : bareB Lq Fq = true
  · obtain ⟨rfl, rfl⟩ := (bareB_iff _ _).1 hb
    exact .inl ⟨rfl, rfl, by rw [setK, if_pos hb, fo_drop]⟩
  · refine .inr ⟨fun e => hb ((bareB_iff _ _).2 ⟨e.1, (fo_nil _).1 e.2⟩), (bq : Int), by simp [ndP, ptrV], by rw [setK, if_neg hb, fo_put]⟩

set_option maxRecDepth 100000 in
set_option maxHeartbeats 1000000 in
theorem changed_nil {S : Nat → Prop} (g : Nat) (x : Int) (h : List Int → List Int) (hg : ChF x g h) : Changes S g x h [] := by
  intro o a cap w hS ho hok hL hN hT hcap
  have HP := Lib.hid ho
  have HS := Lib.hid hS
  have hb : (ndL o).length ≤ 1000000 := by have := hL []; rw [sub_nil] at this; omega
  clear ho hS hL hN hT
  rcases hg with ⟨rfl, rfl⟩ | ⟨rfl, rfl⟩
  · go_enter Tryz.func21, Tryz.ntmps21
    go_wp2_with fail
    refine (nd_WithSub _ _ _ _ x _ HS.out HP.out.pis hb).mono ?_
    rintro e w' ⟨b, rfl, hn, hB⟩
    have HN := Lib.hid hn
    have HB := Lib.hid hB
    clear hn hB
    go_wp2
    go_ret
    refine ⟨some (b, withZ x (ndL o), ndF o), rfl, ⟨b, rfl⟩, ⟨?_, HP.out.kids.below HB.out⟩, HB.out⟩
    have e : ndN o - 1 = (ndF o).sz := by cases o <;> simp [ndN, ndF, Fo.sz]
    rw [← e]; exact HN.out
  · go_enter Tryz.func21, Tryz.ntmps21
    go_wp2_with fail
    refine (nd_WithoutSub _ _ _ _ x _ HS.out HP.out.pis hb).mono ?_
    rintro e w' ⟨b, rfl, hn, hB⟩
    have HN := Lib.hid hn
    have HB := Lib.hid hB
    clear hn hB
    go_wp2
    go_ret
    refine ⟨some (b, woZ x (ndL o), ndF o), rfl, ⟨b, rfl⟩, ⟨?_, HP.out.kids.below HB.out⟩, HB.out⟩
    have e : ndN o - 1 = (ndF o).sz := by cases o <;> simp [ndN, ndF, Fo.sz]
    rw [← e]; exact HN.out

set_option maxRecDepth 100000 in
set_option maxHeartbeats 4000000 in
theorem changed_cons {S : Nat → Prop} (g : Nat) (x : Int) (h : List Int → List Int) (hg : ChF x g h) (k : Key) (r : List Key) (ih : Changes S g x h r) : Changes S g x h (k :: r) := by
  intro o a cap w hS ho hok hL hN hT hcap
  rw [List.length_cons] at hN hcap ⊢
  obtain ⟨b, off, rfl, hbl, hc⟩ := hT.head
  have HT := Lib.hid hT.tail
  have HC : Hid (∀ W, Below w.heap.size w W → W.cell? ⟨b, off, none⟩ = some (keyV k)) := Lib.hid fun W hW => (hW.cell (p := ⟨b, off, none⟩) hbl).trans hc
  have HP := Lib.hid ho
  have HS := Lib.hid hS
  have HOK := Lib.hid hok
  have hszk := kid_le k o
  have hszF := ndN_F o
  have hE : (ndF o).ents.length ≤ 10000 := by have h1 := fo_sz (ndF o); have h2 := ndN_F o; omega
  have IH : Hid (∀ (a : Option Addr) (W : World), Below w.heap.size w W → (r ≠ [] → a = some ⟨b, off + 1, none⟩) → Calls Tryz.prog 21 #[ndP ((ndF o).get k), .slice a r.length (cap - 1), .int .i64 x, .func (.func g) #[] #[]] W fun e w' =>
      ∃ o', e = .returned (ndP o') ∧ Chg h r ((ndF o).get k) o' ∧ NodeIs S w' o' ∧ Below W.heap.size W w') := Lib.hid fun a W hW ha =>
    ih ((ndF o).get k) a (cap - 1) W (fun j hj => HS.out j (Nat.le_trans hW.size hj)) ((HP.out.kid k).below hW) (okN_get HOK.out.2) (fun p => hL (k :: p)) (by omega)
      (by cases r with
        | nil => exact textsIn_nil _ _
        | cons y s => rw [ha (by simp)]; exact HT.out.below hW) (by omega)
  have HK : Hid (∀ W, Below w.heap.size w W → Calls Tryz.prog 28 #[ndP o, keyV k] W fun e w' => e = .returned (ndP ((ndF o).get k)) ∧ Below W.heap.size W w') := Lib.hid fun W hW => by
    rw [← kidV_get]
    exact nd_Kid _ _ _ _ k _ (HP.out.below hW).pis (by omega)
  have HN := Lib.hid hN
  have HH := Lib.hid hg.up
  have hC : Below w.heap.size w w := Below.refl _ _
  have hne : ¬ (((r.length + 1 : Nat) : Int) = 0) := by omega
  have HZ := Lib.hid (And.intro hszk hszF)
  clear ho hS hok hT hc ih hL hN hszk hszF hg
  go_enter Tryz.func21, Tryz.ntmps21
  by_cases hcap1 : cap = 1
  · subst hcap1
    have hr0 : r.length = 0 := by omega
    have hrn : r = [] := List.eq_nil_of_length_eq_zero hr0
    subst hrn
    clear hr0
    replace IH := Lib.hid fun W hW => IH.out (some ⟨b, off, none⟩) W hW (fun e => absurd rfl e)
    go_upto_region 3 with fail
    replace hC : Below w.heap.size w w.drew := (Below.refl _ _).drew
    refine wp_region_noPanic ?_
    refine wp_region_held_drew (S := (fun w' => w'.cell? ⟨b, off, none⟩ = some (keyV k))) (by kernel_rfl) ?_ (fun hHeld => ?_)
    · exact HC.out _ hC
    refine wpAnyH_take (i := 0) (oi := ⟨some 17, _, _, _, _, _⟩) (v := ?_) rfl (by kernel_rfl) (by kernel_rfl) (by kernel_rfl) (fun _ _ _ h => h) (Or.inl ⟨by rfl, ?_⟩) (by assumption) ?_
    rotate_left
    · (intro w hSw; (try dsimp only at hSw); go_simp; try with_reducible rfl)
    try simp only [Act.put, List.setIfInBounds_toArray, List.set_cons_zero, List.set_cons_succ]
    refine wpAnyH_take (i := 1) (oi := ⟨some 18, _, _, _, _, _⟩) (v := ?_) rfl (by kernel_rfl) (by kernel_rfl) (by kernel_rfl) (fun _ _ _ h => h) (Or.inl ⟨by rfl, ?_⟩) (by assumption) ?_
    rotate_left
    · (intro w hSw; (try dsimp only at hSw); go_simp; try with_reducible rfl)
    try simp only [Act.put, List.setIfInBounds_toArray, List.set_cons_zero, List.set_cons_succ]
    refine wpAnyH_take (i := 2) (oi := ⟨some 19, _, _, _, _, _⟩) (v := ?_) rfl (by kernel_rfl) (by kernel_rfl) (by kernel_rfl) (fun _ _ _ h => h) (Or.inl ⟨by rfl, ?_⟩) (by assumption) ?_
    rotate_left
    · (intro w hSw; (try dsimp only at hSw); go_simp; try with_reducible rfl)
    try simp only [Act.put, List.setIfInBounds_toArray, List.set_cons_zero, List.set_cons_succ]
    refine wpAnyH_take (i := 3) (oi := ⟨some 20, _, _, _, _, _⟩) (v := ?_) rfl (by kernel_rfl) (by kernel_rfl) (by kernel_rfl) (fun _ _ _ h => h) (Or.inl ⟨by rfl, ?_⟩) (by assumption) ?_
    rotate_left
    · (intro w hSw; (try dsimp only at hSw); go_simp; try with_reducible rfl)
    try simp only [Act.put, List.setIfInBounds_toArray, List.set_cons_zero, List.set_cons_succ]
    refine wpAnyH_take (i := 5) (oi := ⟨some 22, _, _, _, _, _⟩) (v := ?_) rfl (by kernel_rfl) (by kernel_rfl) (by kernel_rfl) (fun _ _ _ h => h) (Or.inl ⟨by rfl, ?_⟩) (by assumption) ?_
    rotate_left
    · (intro w hSw; (try dsimp only at hSw); go_simp; try with_reducible rfl)
    try simp only [Act.put, List.setIfInBounds_toArray, List.set_cons_zero, List.set_cons_succ]
    refine wpAnyH_take (i := 6) (oi := ⟨some 23, _, _, _, _, _⟩) (v := ?_) rfl (by kernel_rfl) (by kernel_rfl) (by kernel_rfl) (fun _ _ _ h => h) (Or.inl ⟨by rfl, ?_⟩) (by assumption) ?_
    rotate_left
    · (intro w hSw; (try dsimp only at hSw); go_simp; try with_reducible rfl)
    try simp only [Act.put, List.setIfInBounds_toArray, List.set_cons_zero, List.set_cons_succ]
    refine wpAnyH_take (i := 7) (oi := ⟨some 24, _, _, _, _, _⟩) (v := ?_) rfl (by kernel_rfl) (by kernel_rfl) (by kernel_rfl) (fun _ _ _ h => h) (Or.inl ⟨by rfl, ?_⟩) (by assumption) ?_
    rotate_left
    · (intro w hSw; (try dsimp only at hSw); go_simp; try with_reducible rfl)
    try simp only [Act.put, List.setIfInBounds_toArray, List.set_cons_zero, List.set_cons_succ]
    refine wpAnyH_take (i := 8) (oi := ⟨some 25, _, _, _, _, _⟩) (v := ?_) rfl (by kernel_rfl) (by kernel_rfl) (by kernel_rfl) (fun _ _ _ h => h) (Or.inl ⟨by rfl, ?_⟩) (by assumption) ?_
    rotate_left
    · (intro w hSw; (try dsimp only at hSw); go_simp; try with_reducible rfl)
    try simp only [Act.put, List.setIfInBounds_toArray, List.set_cons_zero, List.set_cons_succ]
    refine wpAnyH_ready (rs := [4]) (by kernel_rfl) (by simp) ?_
    refine AllReadyH.cons (o := ⟨some 21, _, _, _, _, _⟩) rfl (fun K hK => ?_) AllReadyH.nil
    go_simp
    refine (HK.out _ hC).mono ?_
    rintro e wx ⟨rfl, hBx⟩
    replace hC := below_step hC hBx
    clear hBx
    go_wp2_with fail
    refine hK.out _ _ ?_ (fun hHeldX => ?_)
    · exact HC.out _ hC
    clear hK K hHeld
    rename _ => hHeld
    try simp only [Act.put, List.setIfInBounds_toArray, List.set_cons_zero, List.set_cons_succ]
    refine wpAnyH_ready (rs := [9]) (by kernel_rfl) (by simp) ?_
    refine AllReadyH.cons (o := ⟨some 26, _, _, _, _, _⟩) rfl (fun K hK => ?_) AllReadyH.nil
    go_simp
    refine (IH.out _ hC).mono ?_
    rintro e wx ⟨q, rfl, hq, hqn, hBx⟩
    have HQ := Lib.hid (And.intro hq hqn)
    replace hC := below_step hC hBx
    clear hq hqn hBx
    go_wp2_with fail
    refine hK.out _ _ ?_ (fun hHeldX => ?_)
    · exact HC.out _ hC
    clear hK K hHeld
    rename _ => hHeld
    try simp only [Act.put, List.setIfInBounds_toArray, List.set_cons_zero, List.set_cons_succ]
    refine wpAnyH_take (i := 10) (oi := ⟨some 9, _, _, _, _, _⟩) (v := ?_) rfl (by kernel_rfl) (by kernel_rfl) (by kernel_rfl) (fun _ _ _ h => h) (Or.inl ⟨by rfl, ?_⟩) (by assumption) ?_
    rotate_left
    · (intro w hSw; (try dsimp only at hSw); go_simp; try with_reducible rfl)
    try simp only [Act.put, List.setIfInBounds_toArray, List.set_cons_zero, List.set_cons_succ]
    refine wpAnyH_done (by kernel_rfl) ?_ _
    refine NoPanic.normal ?_
    obtain ⟨hq, hqn⟩ := HQ.out
    obtain ⟨bq, Lq, Fq, rfl⟩ := chg_some hq
    have hsz : (ndF o).sz + Fq.sz ≤ 9900 := by have h1 := chg_size HH.out (okN_get HOK.out.2) hq; have h2 := HZ.out; have h3 := HN.out; have h4 : ndN (some (bq, Lq, Fq)) = 1 + Fq.sz := rfl; omega
    have HKF := Lib.hid (kid_facts (k := k) (HP.out.below hC).kids HOK.out.2 hqn hsz)
    have HQ2 := Lib.hid hq
    have HQN := Lib.hid hqn
    have hcw := HC.out _ hC
    have HW := Lib.hid hC
    clear hq hqn hsz HQ
    go_wp2_with fail
    refine (nd_WithKid (ndP o) (ndP (some (bq, Lq, Fq))) (ndL o) Lq (ndF o).ents Fq.ents (ndN o) _ k _ (fun j hj => HS.out j (Nat.le_trans HW.out.size hj)) (HP.out.below HW.out).pis (NodeIs.pis (o := some (bq, Lq, Fq)) (HQN.out)) hE (setK (ndF o) k bq Lq Fq).ents HKF.out.2.1 (zfW _) HKF.out.2.2).mono ?_
    rintro e w' ⟨bn, rfl, hn, hB⟩
    rw [HKF.out.1.sum] at hn
    have HN2 := Lib.hid hn
    have HB2 := Lib.hid hB
    clear hn hB
    go_wp2
    go_ret
    exact ⟨some (bn, ndL o, setK (ndF o) k bq Lq Fq), rfl, ⟨bn, bq, Lq, Fq, HQ2.out, rfl⟩, ⟨HN2.out, HKF.out.1.below HB2.out⟩, below_step HW.out HB2.out⟩
  · have hle1 : (1 : Int) ≤ (r.length : Int) + 1 := by omega
    go_upto_region 3 with fail
    replace hC : Below w.heap.size w w.drew := (Below.refl _ _).drew
    refine wp_region_noPanic ?_
    refine wp_region_held_drew (S := (fun w' => w'.cell? ⟨b, off, none⟩ = some (keyV k))) (by kernel_rfl) ?_ (fun hHeld => ?_)
    · exact HC.out _ hC
    refine wpAnyH_take (i := 0) (oi := ⟨some 17, _, _, _, _, _⟩) (v := ?_) rfl (by kernel_rfl) (by kernel_rfl) (by kernel_rfl) (fun _ _ _ h => h) (Or.inl ⟨by rfl, ?_⟩) (by assumption) ?_
    rotate_left
    · (intro w hSw; (try dsimp only at hSw); go_simp; try with_reducible rfl)
    try simp only [Act.put, List.setIfInBounds_toArray, List.set_cons_zero, List.set_cons_succ]
    refine wpAnyH_take (i := 1) (oi := ⟨some 18, _, _, _, _, _⟩) (v := ?_) rfl (by kernel_rfl) (by kernel_rfl) (by kernel_rfl) (fun _ _ _ h => h) (Or.inl ⟨by rfl, ?_⟩) (by assumption) ?_
    rotate_left
    · (intro w hSw; (try dsimp only at hSw); go_simp; try with_reducible rfl)
    try simp only [Act.put, List.setIfInBounds_toArray, List.set_cons_zero, List.set_cons_succ]
    refine wpAnyH_take (i := 2) (oi := ⟨some 19, _, _, _, _, _⟩) (v := ?_) rfl (by kernel_rfl) (by kernel_rfl) (by kernel_rfl) (fun _ _ _ h => h) (Or.inl ⟨by rfl, ?_⟩) (by assumption) ?_
    rotate_left
    · (intro w hSw; (try dsimp only at hSw); go_simp; try with_reducible rfl)
    try simp only [Act.put, List.setIfInBounds_toArray, List.set_cons_zero, List.set_cons_succ]
    refine wpAnyH_take (i := 3) (oi := ⟨some 20, _, _, _, _, _⟩) (v := ?_) rfl (by kernel_rfl) (by kernel_rfl) (by kernel_rfl) (fun _ _ _ h => h) (Or.inl ⟨by rfl, ?_⟩) (by assumption) ?_
    rotate_left
    · (intro w hSw; (try dsimp only at hSw); go_simp; try with_reducible rfl)
    try simp only [Act.put, List.setIfInBounds_toArray, List.set_cons_zero, List.set_cons_succ]
    refine wpAnyH_take (i := 5) (oi := ⟨some 22, _, _, _, _, _⟩) (v := ?_) rfl (by kernel_rfl) (by kernel_rfl) (by kernel_rfl) (fun _ _ _ h => h) (Or.inl ⟨by rfl, ?_⟩) (by assumption) ?_
    rotate_left
    · (intro w hSw; (try dsimp only at hSw); go_simp; try with_reducible rfl)
    try simp only [Act.put, List.setIfInBounds_toArray, List.set_cons_zero, List.set_cons_succ]
    refine wpAnyH_take (i := 6) (oi := ⟨some 23, _, _, _, _, _⟩) (v := ?_) rfl (by kernel_rfl) (by kernel_rfl) (by kernel_rfl) (fun _ _ _ h => h) (Or.inl ⟨by rfl, ?_⟩) (by assumption) ?_
    rotate_left
    · (intro w hSw; (try dsimp only at hSw); go_simp; try with_reducible rfl)
    try simp only [Act.put, List.setIfInBounds_toArray, List.set_cons_zero, List.set_cons_succ]
    refine wpAnyH_take (i := 7) (oi := ⟨some 24, _, _, _, _, _⟩) (v := ?_) rfl (by kernel_rfl) (by kernel_rfl) (by kernel_rfl) (fun _ _ _ h => h) (Or.inl ⟨by rfl, ?_⟩) (by assumption) ?_
    rotate_left
    · (intro w hSw; (try dsimp only at hSw); go_simp; try with_reducible rfl)
    try simp only [Act.put, List.setIfInBounds_toArray, List.set_cons_zero, List.set_cons_succ]
    refine wpAnyH_take (i := 8) (oi := ⟨some 25, _, _, _, _, _⟩) (v := ?_) rfl (by kernel_rfl) (by kernel_rfl) (by kernel_rfl) (fun _ _ _ h => h) (Or.inl ⟨by rfl, ?_⟩) (by assumption) ?_
    rotate_left
    · (intro w hSw; (try dsimp only at hSw); go_simp; try with_reducible rfl)
    try simp only [Act.put, List.setIfInBounds_toArray, List.set_cons_zero, List.set_cons_succ]
    refine wpAnyH_ready (rs := [4]) (by kernel_rfl) (by simp) ?_
    refine AllReadyH.cons (o := ⟨some 21, _, _, _, _, _⟩) rfl (fun K hK => ?_) AllReadyH.nil
    go_simp
    refine (HK.out _ hC).mono ?_
    rintro e wx ⟨rfl, hBx⟩
    replace hC := below_step hC hBx
    clear hBx
    go_wp2_with fail
    refine hK.out _ _ ?_ (fun hHeldX => ?_)
    · exact HC.out _ hC
    clear hK K hHeld
    rename _ => hHeld
    try simp only [Act.put, List.setIfInBounds_toArray, List.set_cons_zero, List.set_cons_succ]
    refine wpAnyH_ready (rs := [9]) (by kernel_rfl) (by simp) ?_
    refine AllReadyH.cons (o := ⟨some 26, _, _, _, _, _⟩) rfl (fun K hK => ?_) AllReadyH.nil
    go_simp
    refine (IH.out (some ⟨b, off + 1, none⟩) _ hC (fun _ => rfl)).mono ?_
    rintro e wx ⟨q, rfl, hq, hqn, hBx⟩
    have HQ := Lib.hid (And.intro hq hqn)
    replace hC := below_step hC hBx
    clear hq hqn hBx
    go_wp2_with fail
    refine hK.out _ _ ?_ (fun hHeldX => ?_)
    · exact HC.out _ hC
    clear hK K hHeld
    rename _ => hHeld
    try simp only [Act.put, List.setIfInBounds_toArray, List.set_cons_zero, List.set_cons_succ]
    refine wpAnyH_take (i := 10) (oi := ⟨some 9, _, _, _, _, _⟩) (v := ?_) rfl (by kernel_rfl) (by kernel_rfl) (by kernel_rfl) (fun _ _ _ h => h) (Or.inl ⟨by rfl, ?_⟩) (by assumption) ?_
    rotate_left
    · (intro w hSw; (try dsimp only at hSw); go_simp; try with_reducible rfl)
    try simp only [Act.put, List.setIfInBounds_toArray, List.set_cons_zero, List.set_cons_succ]
    refine wpAnyH_done (by kernel_rfl) ?_ _
    refine NoPanic.normal ?_
    obtain ⟨hq, hqn⟩ := HQ.out
    obtain ⟨bq, Lq, Fq, rfl⟩ := chg_some hq
    have hsz : (ndF o).sz + Fq.sz ≤ 9900 := by have h1 := chg_size HH.out (okN_get HOK.out.2) hq; have h2 := HZ.out; have h3 := HN.out; have h4 : ndN (some (bq, Lq, Fq)) = 1 + Fq.sz := rfl; omega
    have HKF := Lib.hid (kid_facts (k := k) (HP.out.below hC).kids HOK.out.2 hqn hsz)
    have HQ2 := Lib.hid hq
    have HQN := Lib.hid hqn
    have hcw := HC.out _ hC
    have HW := Lib.hid hC
    clear hq hqn hsz HQ
    go_wp2_with fail
    refine (nd_WithKid (ndP o) (ndP (some (bq, Lq, Fq))) (ndL o) Lq (ndF o).ents Fq.ents (ndN o) _ k _ (fun j hj => HS.out j (Nat.le_trans HW.out.size hj)) (HP.out.below HW.out).pis (NodeIs.pis (o := some (bq, Lq, Fq)) (HQN.out)) hE (setK (ndF o) k bq Lq Fq).ents HKF.out.2.1 (zfW _) HKF.out.2.2).mono ?_
    rintro e w' ⟨bn, rfl, hn, hB⟩
    rw [HKF.out.1.sum] at hn
    have HN2 := Lib.hid hn
    have HB2 := Lib.hid hB
    clear hn hB
    go_wp2
    go_ret
    exact ⟨some (bn, ndL o, setK (ndF o) k bq Lq Fq), rfl, ⟨bn, bq, Lq, Fq, HQ2.out, rfl⟩, ⟨HN2.out, HKF.out.1.below HB2.out⟩, below_step HW.out HB2.out⟩
theorem tr_changed {S : Nat → Prop} (g : Nat) (x : Int) (h : List Int → List Int) (hg : ChF x g h) : ∀ ls, Changes S g x h ls
  | [] => changed_nil g x h hg
  | k :: r => changed_cons g x h hg k r (tr_changed g x h hg r)
end Go.Proofs.YtmfejpbijllojaaGreat
