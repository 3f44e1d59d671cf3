/- Layer 13 (package trie): whom a topic's levels reach: the function that calls itself. Made by tools/gen_trieg13.py. -/
import Derived.Test.YtmfejpbijllojaaGreatSubsX13
import Derived.Deep.RegionHeld3
import Derived.Deep.CutBlock
namespace Go.Proofs.YtmfejpbijllojaaGreat
open Go.RowKit Go.Shelf

theorem Only.under {S : Nat → Prop} {a b c : World} (h : Only S a b) (k : Below a.heap.size b c) : Only S a c :=
  ⟨k.os.trans h.os, k.tape.trans h.tape, k.output.trans h.output, Nat.le_trans h.size k.size, fun i hi hs => (k.block i hi).trans (h.block i hi hs)⟩
/-- Where gathering stands: the box of what is gathered at X; all else that was there at w0 is as it was. -/
structure GSt (w0 : World) (X : Nat) (w : World) (A : List Int) : Prop where
  box : ∃ v, Boxed w X 30 v ∧ w.ownsRow w0.heap.size 3 1 v A.length (A.map numV)
  only : Only (fun k => k = X) w0 w
theorem GSt.below {w0 w w' : World} {X : Nat} {A : List Int} (h : GSt w0 X w A) (hb : Below w.heap.size w w') : GSt w0 X w' A := by
  obtain ⟨⟨v, h1, h2⟩, h3⟩ := h
  exact ⟨⟨v, boxed_below h1 hb h1.lt, own_only h2 (Only.of_below hb (fun _ => False)) (fun _ _ h => h)⟩, h3.under (hb.mono h3.size)⟩
theorem GSt.made {w0 w w' : World} {X : Nat} {v v' : Value} {B : List Int} (h1 : Boxed w X 30 v) (h3 : Only (fun k => k = X) w0 w) (hX : X < w0.heap.size) (hr : w'.ownsRow w0.heap.size 3 1 v' B.length (B.map numV)) (hb : Below w0.heap.size w w') : GSt w0 X (w'.setCell ⟨X, 0, none⟩ v') B :=
  ⟨⟨v', (boxed_below h1 hb hX).set v', own_only hr ((Only.refl (fun k => k = X) w').setCell (p := ⟨X, 0, none⟩) (.inl rfl) v') (fun k hk e => by
      rcases hr.2 with ⟨rfl, _⟩ | ⟨g, cap, cur, rfl, hg, _⟩
      · simp [Value.ownBlock] at hk
      · simp [Value.ownBlock] at hk; omega)⟩, (h3.under hb).setCell (p := ⟨X, 0, none⟩) (.inl rfl) v'⟩
theorem TextsIn.only {W W' : World} {S : Nat → Prop} {a : Option Addr} {L : List Key} (h : TextsIn W a L) (ho : Only S W W') (hoff : ∀ p, a = some p → ¬ S p.block) : TextsIn W' a L := fun i x hx => by
  obtain ⟨b, off, rfl, h2, h3⟩ := h i x hx
  exact ⟨b, off, rfl, Nat.lt_of_lt_of_le h2 ho.size, (World.cell?_of_block (w := W) (ho.block b h2 (hoff _ rfl))).trans h3⟩
def gfn (X G : Nat) : Value := .func (.func 60) #[] #[.pointer (some ⟨X, 0, none⟩), .pointer (some ⟨G, 0, none⟩)]
def Gathers (w0 : World) (X G : Nat) (T : List Key) : Prop := ∀ (o : Nd) (a : Option Addr) (cap : Nat) (w : World) (A : List Int), NodeIs (fun k => k = X) w0 o → A.length + (gath T o).length ≤ 1000000 → (∀ p, (subZ o p).length ≤ 1000) → ndN o ≤ 4000 → TextsIn w0 a T → (∀ p, a = some p → p.block ≠ X) → T.length ≤ cap → GSt w0 X w A →
  Calls Tryz.prog 60 #[ndP o, .slice a T.length cap, .pointer (some ⟨X, 0, none⟩), .pointer (some ⟨G, 0, none⟩)] w fun e w' => e = .returned (.tuple #[]) ∧ GSt w0 X w' (A ++ gath T o)
theorem gathers_none (w0 : World) (X G : Nat) (a : Option Addr) (cap n : Nat) (w : World) (A : List Int) (hst : GSt w0 X w A) :
    Calls Tryz.prog 60 #[.pointer none, .slice a n cap, .pointer (some ⟨X, 0, none⟩), .pointer (some ⟨G, 0, none⟩)] w fun e w' => e = .returned (.tuple #[]) ∧ GSt w0 X w' A := by
  have HST := Lib.hid hst
  clear hst
  go_enter Tryz.func60, Tryz.ntmps60
  go_wp2
  refine bodyPost_ret (results_none rfl _ _ _) rfl ?_
  exact ⟨rfl, HST.out⟩

/-- Behind the node's own levels #: what both ways come to. -/
theorem kid_at (S : Nat → Prop) (w0 : World) (o : Nd) (h : NodeIs S w0 o) (hN : ndN o ≤ 4000) (k : Key) : ∀ W, Only S w0 W → Calls Tryz.prog 28 #[ndP o, keyV k] W fun e w' => e = .returned (ndP ((ndF o).get k)) ∧ Below W.heap.size W w' := fun W hW => by
  rw [← kidV_get]
  exact nd_Kid _ _ _ _ k _ (h.turn hW (fun _ h => h) (fun _ _ h => h)).pis (by have h1 := fo_sz (ndF o); have h2 := ndN_F o; omega)

set_option maxRecDepth 100000 in
set_option maxHeartbeats 4000000 in
theorem gathers_nil (w0 : World) (X G : Nat) (hX : X < w0.heap.size) : Gathers w0 X G [] := by
  intro o a cap w A ho hbig hL hN hT ha hcap hst
  cases o with
  | none => rw [gath_none, List.append_nil]; exact gathers_none w0 X G a cap _ w A hst
  | some x =>
    have HK : Hid (∀ k W, Only (fun k => k = X) w0 W → Calls Tryz.prog 28 #[.pointer (some ⟨x.1, 0, none⟩), keyV k] W fun e w' => e = .returned (ndP ((ndF (some x)).get k)) ∧ Below W.heap.size W w') := Lib.hid (kid_at _ w0 (some x) ho hN)
    obtain ⟨a1, n1, c1, hs1⟩ := nd_SubsX (ho.kid [35])
    have HS1 := Lib.hid hs1
    obtain ⟨a0, n0, c0, hs0⟩ := nd_SubsX ho
    have HS0 := Lib.hid hs0
    have HST := Lib.hid hst
    have HL := Lib.hid hbig
    clear ho hs1 hs0 hL hT hst hbig
    show Calls Tryz.prog 60 #[.pointer (some ⟨x.1, 0, none⟩), .slice a 0 cap, .pointer (some ⟨X, 0, none⟩), .pointer (some ⟨G, 0, none⟩)] w _
    go_enter Tryz.func60, Tryz.ntmps60
    go_upto_region 1 with fail
    go_cut [] from 8 to 13 (fun wx => Hid (GSt w0 X wx (A ++ ndL ((ndF (some x)).get [35]))))
    case first =>
      obtain ⟨⟨v, hbox, hrow⟩, hon⟩ := HST.out
      have HON : Hid (∀ W, Below w.heap.size w W → Only (fun k => k = X) w0 W) := Lib.hid fun W hW => hon.under (hW.mono hon.size)
      have hC : Below w.heap.size w w.drew := (Below.refl _ _).drew
      refine wp_region_noPanic ?_
      refine wp_region_held_drew (S := (fun _ => True)) (by kernel_rfl) ?_ (fun hHeld => ?_)
      · trivial
      refine wpAnyH_take (i := 1) (oi := ⟨some 9, _, _, _, _, _⟩) (v := ?_) rfl (by kernel_rfl) (by kernel_rfl) (by kernel_rfl) (fun _ _ _ h => h) (Or.inl ⟨by rfl, ?_⟩) (by assumption) ?_
      rotate_left
      · (intro w hSw; (try dsimp only at hSw); go_simp; try with_reducible rfl)
      try simp only [Act.put, List.setIfInBounds_toArray, List.set_cons_zero, List.set_cons_succ]
      refine wpAnyH_ready (rs := [0, 2]) (by kernel_rfl) (by simp) ?_
      refine AllReadyH.cons (o := ⟨some 8, _, _, _, _, _⟩) rfl (fun K hK => ?_) (AllReadyH.cons (o := ⟨some 10, _, _, _, _, _⟩) rfl (fun K hK => ?_) AllReadyH.nil)
      · have cX := (boxed_below hbox hC hbox.lt).cell
        go_simp
        clear cX
        refine hK.out _ _ ?_ (fun hHeldX => ?_)
        · trivial
        clear hK K hHeld
        rename _ => hHeld
        try simp only [Act.put, List.setIfInBounds_toArray, List.set_cons_zero, List.set_cons_succ]
        refine wpAnyH_ready (rs := [2]) (by kernel_rfl) (by simp) ?_
        refine AllReadyH.cons (o := ⟨some 10, _, _, _, _, _⟩) rfl (fun K hK => ?_) AllReadyH.nil
        go_simp
        refine (HK.out [35] _ (HON.out _ hC)).mono ?_
        rintro e wx ⟨rfl, hBx⟩
        replace hC := below_step hC hBx
        clear hBx
        go_wp2_with fail
        refine hK.out _ _ ?_ (fun hHeldX => ?_)
        · trivial
        clear hK K hHeld
        rename _ => hHeld
        try simp only [Act.put, List.setIfInBounds_toArray, List.set_cons_zero, List.set_cons_succ]
        refine wpAnyH_ready (rs := [3]) (by kernel_rfl) (by simp) ?_
        refine AllReadyH.cons (o := ⟨some 11, _, _, _, _, _⟩) rfl (fun K hK => ?_) AllReadyH.nil
        go_simp
        refine (HS1.out _ (HON.out _ hC)).2.mono ?_
        rintro e wx ⟨rfl, hBx⟩
        replace hC := below_step hC hBx
        clear hBx
        go_wp2_with fail
        refine hK.out _ _ ?_ (fun hHeldX => ?_)
        · trivial
        clear hK K hHeld
        rename _ => hHeld
        try simp only [Act.put, List.setIfInBounds_toArray, List.set_cons_zero, List.set_cons_succ]
        refine wpAnyH_ready (rs := [4]) (by kernel_rfl) (by simp) ?_
        refine AllReadyH.cons (o := ⟨some 12, _, _, _, _, _⟩) rfl (fun K hK => ?_) AllReadyH.nil
        go_simp
        refine (set_AllN _ _ _ (((HS1.out _ (HON.out _ hC)).1).nums (HON.out _ hC).size)).mono ?_
        rintro e wx ⟨N, rfl, hN1, hN2, hBx⟩
        replace hC := below_step hC hBx
        clear hBx
        go_wp2_with fail
        refine hK.out _ _ ?_ (fun hHeldX => ?_)
        · trivial
        clear hK K hHeld
        rename _ => hHeld
        try simp only [Act.put, List.setIfInBounds_toArray, List.set_cons_zero, List.set_cons_succ]
        refine wpAnyH_ready (rs := [5]) (by kernel_rfl) (by simp) ?_
        refine AllReadyH.cons (o := ⟨some 13, _, _, _, _, _⟩) rfl (fun K hK => ?_) AllReadyH.nil
        go_simp
        refine (seq_appN w0.heap.size N _ _ _ _ _ (own_only hrow (Only.of_below hC (fun _ => False)) (fun _ _ h => h)) (HON.out _ hC).size hN1 hN2 (HS1.out _ (HON.out _ hC)).1 (by have := HL.out; first | omega | (simp only [gath, List.length_append] at this ⊢; omega))).mono ?_
        rintro e wx ⟨a2, n2, c2, rfl, hrow2, hB2⟩
        have hb2 := boxed_below (boxed_below hbox hC hbox.lt) hB2 hX
        have hD := hC
        replace hC := True.intro
        go_wp2_with fail
        refine hK.out _ _ ?_ (fun hHeldX => ?_)
        · trivial
        clear hK K hHeld
        rename _ => hHeld
        try simp only [Act.put, List.setIfInBounds_toArray, List.set_cons_zero, List.set_cons_succ]
        refine wpAnyH_ready (rs := [6]) (by kernel_rfl) (by simp) ?_
        refine AllReadyH.cons (o := ⟨none, _, _, _, _, _⟩) rfl (fun K hK => ?_) AllReadyH.nil
        have cX := hb2.cell
        have fX := hb2.frozen
        go_simp
        clear cX fX
        refine hK.out _ _ ?_ (fun hHeldX => ?_)
        · trivial
        clear hK K hHeld
        rename _ => hHeld
        try simp only [Act.put, List.setIfInBounds_toArray, List.set_cons_zero, List.set_cons_succ]
        refine wpAnyH_done (by kernel_rfl) ?_ _
        refine NoPanic.normal ?_
        go_wp2_with fail
        go_meet
        case rel => exact Lib.hid (GSt.made (boxed_below hbox hD hbox.lt) (HON.out _ hD) hX hrow2 hB2)
      · go_simp
        refine (HK.out [35] _ (HON.out _ hC)).mono ?_
        rintro e wx ⟨rfl, hBx⟩
        replace hC := below_step hC hBx
        clear hBx
        go_wp2_with fail
        refine hK.out _ _ ?_ (fun hHeldX => ?_)
        · trivial
        clear hK K hHeld
        rename _ => hHeld
        try simp only [Act.put, List.setIfInBounds_toArray, List.set_cons_zero, List.set_cons_succ]
        refine wpAnyH_ready (rs := [0, 3]) (by kernel_rfl) (by simp) ?_
        refine AllReadyH.cons (o := ⟨some 8, _, _, _, _, _⟩) rfl (fun K hK => ?_) (AllReadyH.cons (o := ⟨some 11, _, _, _, _, _⟩) rfl (fun K hK => ?_) AllReadyH.nil)
        · have cX := (boxed_below hbox hC hbox.lt).cell
          go_simp
          clear cX
          refine hK.out _ _ ?_ (fun hHeldX => ?_)
          · trivial
          clear hK K hHeld
          rename _ => hHeld
          try simp only [Act.put, List.setIfInBounds_toArray, List.set_cons_zero, List.set_cons_succ]
          refine wpAnyH_ready (rs := [3]) (by kernel_rfl) (by simp) ?_
          refine AllReadyH.cons (o := ⟨some 11, _, _, _, _, _⟩) rfl (fun K hK => ?_) AllReadyH.nil
          go_simp
          refine (HS1.out _ (HON.out _ hC)).2.mono ?_
          rintro e wx ⟨rfl, hBx⟩
          replace hC := below_step hC hBx
          clear hBx
          go_wp2_with fail
          refine hK.out _ _ ?_ (fun hHeldX => ?_)
          · trivial
          clear hK K hHeld
          rename _ => hHeld
          try simp only [Act.put, List.setIfInBounds_toArray, List.set_cons_zero, List.set_cons_succ]
          refine wpAnyH_ready (rs := [4]) (by kernel_rfl) (by simp) ?_
          refine AllReadyH.cons (o := ⟨some 12, _, _, _, _, _⟩) rfl (fun K hK => ?_) AllReadyH.nil
          go_simp
          refine (set_AllN _ _ _ (((HS1.out _ (HON.out _ hC)).1).nums (HON.out _ hC).size)).mono ?_
          rintro e wx ⟨N, rfl, hN1, hN2, hBx⟩
          replace hC := below_step hC hBx
          clear hBx
          go_wp2_with fail
          refine hK.out _ _ ?_ (fun hHeldX => ?_)
          · trivial
          clear hK K hHeld
          rename _ => hHeld
          try simp only [Act.put, List.setIfInBounds_toArray, List.set_cons_zero, List.set_cons_succ]
          refine wpAnyH_ready (rs := [5]) (by kernel_rfl) (by simp) ?_
          refine AllReadyH.cons (o := ⟨some 13, _, _, _, _, _⟩) rfl (fun K hK => ?_) AllReadyH.nil
          go_simp
          refine (seq_appN w0.heap.size N _ _ _ _ _ (own_only hrow (Only.of_below hC (fun _ => False)) (fun _ _ h => h)) (HON.out _ hC).size hN1 hN2 (HS1.out _ (HON.out _ hC)).1 (by have := HL.out; first | omega | (simp only [gath, List.length_append] at this ⊢; omega))).mono ?_
          rintro e wx ⟨a2, n2, c2, rfl, hrow2, hB2⟩
          have hb2 := boxed_below (boxed_below hbox hC hbox.lt) hB2 hX
          have hD := hC
          replace hC := True.intro
          go_wp2_with fail
          refine hK.out _ _ ?_ (fun hHeldX => ?_)
          · trivial
          clear hK K hHeld
          rename _ => hHeld
          try simp only [Act.put, List.setIfInBounds_toArray, List.set_cons_zero, List.set_cons_succ]
          refine wpAnyH_ready (rs := [6]) (by kernel_rfl) (by simp) ?_
          refine AllReadyH.cons (o := ⟨none, _, _, _, _, _⟩) rfl (fun K hK => ?_) AllReadyH.nil
          have cX := hb2.cell
          have fX := hb2.frozen
          go_simp
          clear cX fX
          refine hK.out _ _ ?_ (fun hHeldX => ?_)
          · trivial
          clear hK K hHeld
          rename _ => hHeld
          try simp only [Act.put, List.setIfInBounds_toArray, List.set_cons_zero, List.set_cons_succ]
          refine wpAnyH_done (by kernel_rfl) ?_ _
          refine NoPanic.normal ?_
          go_wp2_with fail
          go_meet
          case rel => exact Lib.hid (GSt.made (boxed_below hbox hD hbox.lt) (HON.out _ hD) hX hrow2 hB2)
        · go_simp
          refine (HS1.out _ (HON.out _ hC)).2.mono ?_
          rintro e wx ⟨rfl, hBx⟩
          replace hC := below_step hC hBx
          clear hBx
          go_wp2_with fail
          refine hK.out _ _ ?_ (fun hHeldX => ?_)
          · trivial
          clear hK K hHeld
          rename _ => hHeld
          try simp only [Act.put, List.setIfInBounds_toArray, List.set_cons_zero, List.set_cons_succ]
          refine wpAnyH_ready (rs := [0, 4]) (by kernel_rfl) (by simp) ?_
          refine AllReadyH.cons (o := ⟨some 8, _, _, _, _, _⟩) rfl (fun K hK => ?_) (AllReadyH.cons (o := ⟨some 12, _, _, _, _, _⟩) rfl (fun K hK => ?_) AllReadyH.nil)
          · have cX := (boxed_below hbox hC hbox.lt).cell
            go_simp
            clear cX
            refine hK.out _ _ ?_ (fun hHeldX => ?_)
            · trivial
            clear hK K hHeld
            rename _ => hHeld
            try simp only [Act.put, List.setIfInBounds_toArray, List.set_cons_zero, List.set_cons_succ]
            refine wpAnyH_ready (rs := [4]) (by kernel_rfl) (by simp) ?_
            refine AllReadyH.cons (o := ⟨some 12, _, _, _, _, _⟩) rfl (fun K hK => ?_) AllReadyH.nil
            go_simp
            refine (set_AllN _ _ _ (((HS1.out _ (HON.out _ hC)).1).nums (HON.out _ hC).size)).mono ?_
            rintro e wx ⟨N, rfl, hN1, hN2, hBx⟩
            replace hC := below_step hC hBx
            clear hBx
            go_wp2_with fail
            refine hK.out _ _ ?_ (fun hHeldX => ?_)
            · trivial
            clear hK K hHeld
            rename _ => hHeld
            try simp only [Act.put, List.setIfInBounds_toArray, List.set_cons_zero, List.set_cons_succ]
            refine wpAnyH_ready (rs := [5]) (by kernel_rfl) (by simp) ?_
            refine AllReadyH.cons (o := ⟨some 13, _, _, _, _, _⟩) rfl (fun K hK => ?_) AllReadyH.nil
            go_simp
            refine (seq_appN w0.heap.size N _ _ _ _ _ (own_only hrow (Only.of_below hC (fun _ => False)) (fun _ _ h => h)) (HON.out _ hC).size hN1 hN2 (HS1.out _ (HON.out _ hC)).1 (by have := HL.out; first | omega | (simp only [gath, List.length_append] at this ⊢; omega))).mono ?_
            rintro e wx ⟨a2, n2, c2, rfl, hrow2, hB2⟩
            have hb2 := boxed_below (boxed_below hbox hC hbox.lt) hB2 hX
            have hD := hC
            replace hC := True.intro
            go_wp2_with fail
            refine hK.out _ _ ?_ (fun hHeldX => ?_)
            · trivial
            clear hK K hHeld
            rename _ => hHeld
            try simp only [Act.put, List.setIfInBounds_toArray, List.set_cons_zero, List.set_cons_succ]
            refine wpAnyH_ready (rs := [6]) (by kernel_rfl) (by simp) ?_
            refine AllReadyH.cons (o := ⟨none, _, _, _, _, _⟩) rfl (fun K hK => ?_) AllReadyH.nil
            have cX := hb2.cell
            have fX := hb2.frozen
            go_simp
            clear cX fX
            refine hK.out _ _ ?_ (fun hHeldX => ?_)
            · trivial
            clear hK K hHeld
            rename _ => hHeld
            try simp only [Act.put, List.setIfInBounds_toArray, List.set_cons_zero, List.set_cons_succ]
            refine wpAnyH_done (by kernel_rfl) ?_ _
            refine NoPanic.normal ?_
            go_wp2_with fail
            go_meet
            case rel => exact Lib.hid (GSt.made (boxed_below hbox hD hbox.lt) (HON.out _ hD) hX hrow2 hB2)
          · go_simp
            refine (set_AllN _ _ _ (((HS1.out _ (HON.out _ hC)).1).nums (HON.out _ hC).size)).mono ?_
            rintro e wx ⟨N, rfl, hN1, hN2, hBx⟩
            replace hC := below_step hC hBx
            clear hBx
            go_wp2_with fail
            refine hK.out _ _ ?_ (fun hHeldX => ?_)
            · trivial
            clear hK K hHeld
            rename _ => hHeld
            try simp only [Act.put, List.setIfInBounds_toArray, List.set_cons_zero, List.set_cons_succ]
            refine wpAnyH_ready (rs := [0]) (by kernel_rfl) (by simp) ?_
            refine AllReadyH.cons (o := ⟨some 8, _, _, _, _, _⟩) rfl (fun K hK => ?_) AllReadyH.nil
            have cX := (boxed_below hbox hC hbox.lt).cell
            go_simp
            clear cX
            refine hK.out _ _ ?_ (fun hHeldX => ?_)
            · trivial
            clear hK K hHeld
            rename _ => hHeld
            try simp only [Act.put, List.setIfInBounds_toArray, List.set_cons_zero, List.set_cons_succ]
            refine wpAnyH_ready (rs := [5]) (by kernel_rfl) (by simp) ?_
            refine AllReadyH.cons (o := ⟨some 13, _, _, _, _, _⟩) rfl (fun K hK => ?_) AllReadyH.nil
            go_simp
            refine (seq_appN w0.heap.size N _ _ _ _ _ (own_only hrow (Only.of_below hC (fun _ => False)) (fun _ _ h => h)) (HON.out _ hC).size hN1 hN2 (HS1.out _ (HON.out _ hC)).1 (by have := HL.out; first | omega | (simp only [gath, List.length_append] at this ⊢; omega))).mono ?_
            rintro e wx ⟨a2, n2, c2, rfl, hrow2, hB2⟩
            have hb2 := boxed_below (boxed_below hbox hC hbox.lt) hB2 hX
            have hD := hC
            replace hC := True.intro
            go_wp2_with fail
            refine hK.out _ _ ?_ (fun hHeldX => ?_)
            · trivial
            clear hK K hHeld
            rename _ => hHeld
            try simp only [Act.put, List.setIfInBounds_toArray, List.set_cons_zero, List.set_cons_succ]
            refine wpAnyH_ready (rs := [6]) (by kernel_rfl) (by simp) ?_
            refine AllReadyH.cons (o := ⟨none, _, _, _, _, _⟩) rfl (fun K hK => ?_) AllReadyH.nil
            have cX := hb2.cell
            have fX := hb2.frozen
            go_simp
            clear cX fX
            refine hK.out _ _ ?_ (fun hHeldX => ?_)
            · trivial
            clear hK K hHeld
            rename _ => hHeld
            try simp only [Act.put, List.setIfInBounds_toArray, List.set_cons_zero, List.set_cons_succ]
            refine wpAnyH_done (by kernel_rfl) ?_ _
            refine NoPanic.normal ?_
            go_wp2_with fail
            go_meet
            case rel => exact Lib.hid (GSt.made (boxed_below hbox hD hbox.lt) (HON.out _ hD) hX hrow2 hB2)
    case rest =>
      have HST1 := Lib.hid hcut.out
      go_upto_region 3 with fail
      obtain ⟨⟨v, hbox, hrow⟩, hon⟩ := HST1.out
      have HON : Hid (∀ W, Below wc.heap.size wc W → Only (fun k => k = X) w0 W) := Lib.hid fun W hW => hon.under (hW.mono hon.size)
      have hC : Below wc.heap.size wc wc.drew := (Below.refl _ _).drew
      refine wp_region_noPanic ?_
      refine wp_region_held_drew (S := (fun _ => True)) (by kernel_rfl) ?_ (fun hHeld => ?_)
      · trivial
      refine wpAnyH_take (i := 1) (oi := ⟨some 18, _, _, _, _, _⟩) (v := ?_) rfl (by kernel_rfl) (by kernel_rfl) (by kernel_rfl) (fun _ _ _ h => h) (Or.inl ⟨by rfl, ?_⟩) (by assumption) ?_
      rotate_left
      · (intro w hSw; (try dsimp only at hSw); go_simp; try with_reducible rfl)
      try simp only [Act.put, List.setIfInBounds_toArray, List.set_cons_zero, List.set_cons_succ]
      refine wpAnyH_ready (rs := [0, 2]) (by kernel_rfl) (by simp) ?_
      refine AllReadyH.cons (o := ⟨some 17, _, _, _, _, _⟩) rfl (fun K hK => ?_) (AllReadyH.cons (o := ⟨some 19, _, _, _, _, _⟩) rfl (fun K hK => ?_) AllReadyH.nil)
      · have cX := (boxed_below hbox hC hbox.lt).cell
        go_simp
        clear cX
        refine hK.out _ _ ?_ (fun hHeldX => ?_)
        · trivial
        clear hK K hHeld
        rename _ => hHeld
        try simp only [Act.put, List.setIfInBounds_toArray, List.set_cons_zero, List.set_cons_succ]
        refine wpAnyH_ready (rs := [2]) (by kernel_rfl) (by simp) ?_
        refine AllReadyH.cons (o := ⟨some 19, _, _, _, _, _⟩) rfl (fun K hK => ?_) AllReadyH.nil
        go_simp
        refine (HS0.out _ (HON.out _ hC)).2.mono ?_
        rintro e wx ⟨rfl, hBx⟩
        replace hC := below_step hC hBx
        clear hBx
        go_wp2_with fail
        refine hK.out _ _ ?_ (fun hHeldX => ?_)
        · trivial
        clear hK K hHeld
        rename _ => hHeld
        try simp only [Act.put, List.setIfInBounds_toArray, List.set_cons_zero, List.set_cons_succ]
        refine wpAnyH_ready (rs := [3]) (by kernel_rfl) (by simp) ?_
        refine AllReadyH.cons (o := ⟨some 20, _, _, _, _, _⟩) rfl (fun K hK => ?_) AllReadyH.nil
        go_simp
        refine (set_AllN _ _ _ (((HS0.out _ (HON.out _ hC)).1).nums (HON.out _ hC).size)).mono ?_
        rintro e wx ⟨N, rfl, hN1, hN2, hBx⟩
        replace hC := below_step hC hBx
        clear hBx
        go_wp2_with fail
        refine hK.out _ _ ?_ (fun hHeldX => ?_)
        · trivial
        clear hK K hHeld
        rename _ => hHeld
        try simp only [Act.put, List.setIfInBounds_toArray, List.set_cons_zero, List.set_cons_succ]
        refine wpAnyH_ready (rs := [4]) (by kernel_rfl) (by simp) ?_
        refine AllReadyH.cons (o := ⟨some 21, _, _, _, _, _⟩) rfl (fun K hK => ?_) AllReadyH.nil
        go_simp
        refine (seq_appN w0.heap.size N _ _ _ _ _ (own_only hrow (Only.of_below hC (fun _ => False)) (fun _ _ h => h)) (HON.out _ hC).size hN1 hN2 (HS0.out _ (HON.out _ hC)).1 (by have := HL.out; first | omega | (simp only [gath, List.length_append] at this ⊢; omega))).mono ?_
        rintro e wx ⟨a2, n2, c2, rfl, hrow2, hB2⟩
        have hb2 := boxed_below (boxed_below hbox hC hbox.lt) hB2 hX
        have hD := hC
        replace hC := True.intro
        go_wp2_with fail
        refine hK.out _ _ ?_ (fun hHeldX => ?_)
        · trivial
        clear hK K hHeld
        rename _ => hHeld
        try simp only [Act.put, List.setIfInBounds_toArray, List.set_cons_zero, List.set_cons_succ]
        refine wpAnyH_ready (rs := [5]) (by kernel_rfl) (by simp) ?_
        refine AllReadyH.cons (o := ⟨none, _, _, _, _, _⟩) rfl (fun K hK => ?_) AllReadyH.nil
        have cX := hb2.cell
        have fX := hb2.frozen
        go_simp
        clear cX fX
        refine hK.out _ _ ?_ (fun hHeldX => ?_)
        · trivial
        clear hK K hHeld
        rename _ => hHeld
        try simp only [Act.put, List.setIfInBounds_toArray, List.set_cons_zero, List.set_cons_succ]
        refine wpAnyH_done (by kernel_rfl) ?_ _
        refine NoPanic.normal ?_
        have HM := Lib.hid (GSt.made (boxed_below hbox hD hbox.lt) (HON.out _ hD) hX hrow2 hB2)
        clear hbox hrow hon hrow2 hB2 hb2 hD hN2
        go_wp2
        refine bodyPost_ret (results_none rfl _ _ _) rfl ?_
        exact ⟨rfl, by rw [gath, ← List.append_assoc]; exact HM.out⟩
      · go_simp
        refine (HS0.out _ (HON.out _ hC)).2.mono ?_
        rintro e wx ⟨rfl, hBx⟩
        replace hC := below_step hC hBx
        clear hBx
        go_wp2_with fail
        refine hK.out _ _ ?_ (fun hHeldX => ?_)
        · trivial
        clear hK K hHeld
        rename _ => hHeld
        try simp only [Act.put, List.setIfInBounds_toArray, List.set_cons_zero, List.set_cons_succ]
        refine wpAnyH_ready (rs := [0, 3]) (by kernel_rfl) (by simp) ?_
        refine AllReadyH.cons (o := ⟨some 17, _, _, _, _, _⟩) rfl (fun K hK => ?_) (AllReadyH.cons (o := ⟨some 20, _, _, _, _, _⟩) rfl (fun K hK => ?_) AllReadyH.nil)
        · have cX := (boxed_below hbox hC hbox.lt).cell
          go_simp
          clear cX
          refine hK.out _ _ ?_ (fun hHeldX => ?_)
          · trivial
          clear hK K hHeld
          rename _ => hHeld
          try simp only [Act.put, List.setIfInBounds_toArray, List.set_cons_zero, List.set_cons_succ]
          refine wpAnyH_ready (rs := [3]) (by kernel_rfl) (by simp) ?_
          refine AllReadyH.cons (o := ⟨some 20, _, _, _, _, _⟩) rfl (fun K hK => ?_) AllReadyH.nil
          go_simp
          refine (set_AllN _ _ _ (((HS0.out _ (HON.out _ hC)).1).nums (HON.out _ hC).size)).mono ?_
          rintro e wx ⟨N, rfl, hN1, hN2, hBx⟩
          replace hC := below_step hC hBx
          clear hBx
          go_wp2_with fail
          refine hK.out _ _ ?_ (fun hHeldX => ?_)
          · trivial
          clear hK K hHeld
          rename _ => hHeld
          try simp only [Act.put, List.setIfInBounds_toArray, List.set_cons_zero, List.set_cons_succ]
          refine wpAnyH_ready (rs := [4]) (by kernel_rfl) (by simp) ?_
          refine AllReadyH.cons (o := ⟨some 21, _, _, _, _, _⟩) rfl (fun K hK => ?_) AllReadyH.nil
          go_simp
          refine (seq_appN w0.heap.size N _ _ _ _ _ (own_only hrow (Only.of_below hC (fun _ => False)) (fun _ _ h => h)) (HON.out _ hC).size hN1 hN2 (HS0.out _ (HON.out _ hC)).1 (by have := HL.out; first | omega | (simp only [gath, List.length_append] at this ⊢; omega))).mono ?_
          rintro e wx ⟨a2, n2, c2, rfl, hrow2, hB2⟩
          have hb2 := boxed_below (boxed_below hbox hC hbox.lt) hB2 hX
          have hD := hC
          replace hC := True.intro
          go_wp2_with fail
          refine hK.out _ _ ?_ (fun hHeldX => ?_)
          · trivial
          clear hK K hHeld
          rename _ => hHeld
          try simp only [Act.put, List.setIfInBounds_toArray, List.set_cons_zero, List.set_cons_succ]
          refine wpAnyH_ready (rs := [5]) (by kernel_rfl) (by simp) ?_
          refine AllReadyH.cons (o := ⟨none, _, _, _, _, _⟩) rfl (fun K hK => ?_) AllReadyH.nil
          have cX := hb2.cell
          have fX := hb2.frozen
          go_simp
          clear cX fX
          refine hK.out _ _ ?_ (fun hHeldX => ?_)
          · trivial
          clear hK K hHeld
          rename _ => hHeld
          try simp only [Act.put, List.setIfInBounds_toArray, List.set_cons_zero, List.set_cons_succ]
          refine wpAnyH_done (by kernel_rfl) ?_ _
          refine NoPanic.normal ?_
          have HM := Lib.hid (GSt.made (boxed_below hbox hD hbox.lt) (HON.out _ hD) hX hrow2 hB2)
          clear hbox hrow hon hrow2 hB2 hb2 hD hN2
          go_wp2
          refine bodyPost_ret (results_none rfl _ _ _) rfl ?_
          exact ⟨rfl, by rw [gath, ← List.append_assoc]; exact HM.out⟩
        · go_simp
          refine (set_AllN _ _ _ (((HS0.out _ (HON.out _ hC)).1).nums (HON.out _ hC).size)).mono ?_
          rintro e wx ⟨N, rfl, hN1, hN2, hBx⟩
          replace hC := below_step hC hBx
          clear hBx
          go_wp2_with fail
          refine hK.out _ _ ?_ (fun hHeldX => ?_)
          · trivial
          clear hK K hHeld
          rename _ => hHeld
          try simp only [Act.put, List.setIfInBounds_toArray, List.set_cons_zero, List.set_cons_succ]
          refine wpAnyH_ready (rs := [0]) (by kernel_rfl) (by simp) ?_
          refine AllReadyH.cons (o := ⟨some 17, _, _, _, _, _⟩) rfl (fun K hK => ?_) AllReadyH.nil
          have cX := (boxed_below hbox hC hbox.lt).cell
          go_simp
          clear cX
          refine hK.out _ _ ?_ (fun hHeldX => ?_)
          · trivial
          clear hK K hHeld
          rename _ => hHeld
          try simp only [Act.put, List.setIfInBounds_toArray, List.set_cons_zero, List.set_cons_succ]
          refine wpAnyH_ready (rs := [4]) (by kernel_rfl) (by simp) ?_
          refine AllReadyH.cons (o := ⟨some 21, _, _, _, _, _⟩) rfl (fun K hK => ?_) AllReadyH.nil
          go_simp
          refine (seq_appN w0.heap.size N _ _ _ _ _ (own_only hrow (Only.of_below hC (fun _ => False)) (fun _ _ h => h)) (HON.out _ hC).size hN1 hN2 (HS0.out _ (HON.out _ hC)).1 (by have := HL.out; first | omega | (simp only [gath, List.length_append] at this ⊢; omega))).mono ?_
          rintro e wx ⟨a2, n2, c2, rfl, hrow2, hB2⟩
          have hb2 := boxed_below (boxed_below hbox hC hbox.lt) hB2 hX
          have hD := hC
          replace hC := True.intro
          go_wp2_with fail
          refine hK.out _ _ ?_ (fun hHeldX => ?_)
          · trivial
          clear hK K hHeld
          rename _ => hHeld
          try simp only [Act.put, List.setIfInBounds_toArray, List.set_cons_zero, List.set_cons_succ]
          refine wpAnyH_ready (rs := [5]) (by kernel_rfl) (by simp) ?_
          refine AllReadyH.cons (o := ⟨none, _, _, _, _, _⟩) rfl (fun K hK => ?_) AllReadyH.nil
          have cX := hb2.cell
          have fX := hb2.frozen
          go_simp
          clear cX fX
          refine hK.out _ _ ?_ (fun hHeldX => ?_)
          · trivial
          clear hK K hHeld
          rename _ => hHeld
          try simp only [Act.put, List.setIfInBounds_toArray, List.set_cons_zero, List.set_cons_succ]
          refine wpAnyH_done (by kernel_rfl) ?_ _
          refine NoPanic.normal ?_
          have HM := Lib.hid (GSt.made (boxed_below hbox hD hbox.lt) (HON.out _ hD) hX hrow2 hB2)
          clear hbox hrow hon hrow2 hB2 hb2 hD hN2
          go_wp2
          refine bodyPost_ret (results_none rfl _ _ _) rfl ?_
          exact ⟨rfl, by rw [gath, ← List.append_assoc]; exact HM.out⟩

set_option maxRecDepth 100000 in
set_option maxHeartbeats 4000000 in
theorem gathers_cons (w0 : World) (X G : Nat) (hX : X < w0.heap.size) (hG : Boxed w0 G 89 (gfn X G)) (hGX : G ≠ X) (y : Key) (r : List Key) (ih : Gathers w0 X G r) : Gathers w0 X G (y :: r) := by
  intro o a cap w A ho hbig hL hN hT ha hcap hst
  cases o with
  | none => rw [gath_none, List.append_nil]; exact gathers_none w0 X G a cap _ w A hst
  | some x =>
    rw [List.length_cons] at hcap ⊢
    obtain ⟨b, off, rfl, hbl, hc⟩ := hT.head
    have hbX : b ≠ X := ha _ rfl
    have HTT := Lib.hid hT.tail
    have HC : Hid (∀ W, Only (fun k => k = X) w0 W → W.cell? ⟨b, off, none⟩ = some (keyV y)) := Lib.hid fun W hW => (World.cell?_of_block (w := w0) (hW.block b hbl hbX)).trans hc
    have HG : Hid (∀ W, Only (fun k => k = X) w0 W → W.cell? ⟨G, 0, none⟩ = some (gfn X G)) := Lib.hid fun W hW => (World.cell?_of_block (w := w0) (hW.block G hG.lt hGX)).trans hG.cell
    have HK : Hid (∀ k W, Only (fun k => k = X) w0 W → Calls Tryz.prog 28 #[.pointer (some ⟨x.1, 0, none⟩), keyV k] W fun e w' => e = .returned (ndP ((ndF (some x)).get k)) ∧ Below W.heap.size W w') := Lib.hid (kid_at _ w0 (some x) ho hN)
    obtain ⟨a1, n1, c1, hs1⟩ := nd_SubsX (ho.kid [35])
    have HS1 := Lib.hid hs1
    have hlen : A.length + ((ndL ((ndF (some x)).get [35])).length + ((gath r ((ndF (some x)).get y)).length + (gath r ((ndF (some x)).get [43])).length)) ≤ 1000000 := by
      simpa [gath] using hbig
    have IH : Hid (∀ (k : Key) (a : Option Addr) (W : World) (B : List Int), B.length + (gath r ((ndF (some x)).get k)).length ≤ 1000000 → (r ≠ [] → a = some ⟨b, off + 1, none⟩) → (a = some ⟨b, off + 1, none⟩ ∨ a = some ⟨b, off, none⟩) → GSt w0 X W B → Calls Tryz.prog 60 #[ndP ((ndF (some x)).get k), .slice a r.length (cap - 1), .pointer (some ⟨X, 0, none⟩), .pointer (some ⟨G, 0, none⟩)] W fun e w' =>
        e = .returned (.tuple #[]) ∧ GSt w0 X w' (B ++ gath r ((ndF (some x)).get k))) := Lib.hid fun k a W B hB hra hab hg =>
      ih ((ndF (some x)).get k) a (cap - 1) W B (ho.kid k) hB (fun p => hL (k :: p)) (Nat.le_trans (kid_le k _) hN)
        (by cases r with
          | nil => exact textsIn_nil _ _
          | cons z s => rw [hra (by simp)]; exact HTT.out)
        (fun p hp => by rcases hab with e | e <;> (rw [e] at hp; cases hp; exact hbX)) (by omega) hg
    have HST := Lib.hid hst
    have HL := Lib.hid hlen
    have hne : ((((r.length + 1 : Nat) : Int)) == 0) = false := by rw [beq_eq_false_iff_ne]; omega
    have hle1 : (1 : Int) ≤ (r.length : Int) + 1 := by omega
    clear ho hs1 hL hT hst hbig hlen ih hc hbl ha
    show Calls Tryz.prog 60 #[.pointer (some ⟨x.1, 0, none⟩), .slice (some ⟨b, off, none⟩) (r.length + 1) cap, .pointer (some ⟨X, 0, none⟩), .pointer (some ⟨G, 0, none⟩)] w _
    go_enter Tryz.func60, Tryz.ntmps60
    go_upto_region 1 with fail
    go_cut [] from 8 to 13 (fun wx => Hid (GSt w0 X wx (A ++ ndL ((ndF (some x)).get [35]))))
    case first =>
      obtain ⟨⟨v, hbox, hrow⟩, hon⟩ := HST.out
      have HON : Hid (∀ W, Below w.heap.size w W → Only (fun k => k = X) w0 W) := Lib.hid fun W hW => hon.under (hW.mono hon.size)
      have hC : Below w.heap.size w w.drew := (Below.refl _ _).drew
      refine wp_region_noPanic ?_
      refine wp_region_held_drew (S := (fun _ => True)) (by kernel_rfl) ?_ (fun hHeld => ?_)
      · trivial
      refine wpAnyH_take (i := 1) (oi := ⟨some 9, _, _, _, _, _⟩) (v := ?_) rfl (by kernel_rfl) (by kernel_rfl) (by kernel_rfl) (fun _ _ _ h => h) (Or.inl ⟨by rfl, ?_⟩) (by assumption) ?_
      rotate_left
      · (intro w hSw; (try dsimp only at hSw); go_simp; try with_reducible rfl)
      try simp only [Act.put, List.setIfInBounds_toArray, List.set_cons_zero, List.set_cons_succ]
      refine wpAnyH_ready (rs := [0, 2]) (by kernel_rfl) (by simp) ?_
      refine AllReadyH.cons (o := ⟨some 8, _, _, _, _, _⟩) rfl (fun K hK => ?_) (AllReadyH.cons (o := ⟨some 10, _, _, _, _, _⟩) rfl (fun K hK => ?_) AllReadyH.nil)
      · have cX := (boxed_below hbox hC hbox.lt).cell
        go_simp
        clear cX
        refine hK.out _ _ ?_ (fun hHeldX => ?_)
        · trivial
        clear hK K hHeld
        rename _ => hHeld
        try simp only [Act.put, List.setIfInBounds_toArray, List.set_cons_zero, List.set_cons_succ]
        refine wpAnyH_ready (rs := [2]) (by kernel_rfl) (by simp) ?_
        refine AllReadyH.cons (o := ⟨some 10, _, _, _, _, _⟩) rfl (fun K hK => ?_) AllReadyH.nil
        go_simp
        refine (HK.out [35] _ (HON.out _ hC)).mono ?_
        rintro e wx ⟨rfl, hBx⟩
        replace hC := below_step hC hBx
        clear hBx
        go_wp2_with fail
        refine hK.out _ _ ?_ (fun hHeldX => ?_)
        · trivial
        clear hK K hHeld
        rename _ => hHeld
        try simp only [Act.put, List.setIfInBounds_toArray, List.set_cons_zero, List.set_cons_succ]
        refine wpAnyH_ready (rs := [3]) (by kernel_rfl) (by simp) ?_
        refine AllReadyH.cons (o := ⟨some 11, _, _, _, _, _⟩) rfl (fun K hK => ?_) AllReadyH.nil
        go_simp
        refine (HS1.out _ (HON.out _ hC)).2.mono ?_
        rintro e wx ⟨rfl, hBx⟩
        replace hC := below_step hC hBx
        clear hBx
        go_wp2_with fail
        refine hK.out _ _ ?_ (fun hHeldX => ?_)
        · trivial
        clear hK K hHeld
        rename _ => hHeld
        try simp only [Act.put, List.setIfInBounds_toArray, List.set_cons_zero, List.set_cons_succ]
        refine wpAnyH_ready (rs := [4]) (by kernel_rfl) (by simp) ?_
        refine AllReadyH.cons (o := ⟨some 12, _, _, _, _, _⟩) rfl (fun K hK => ?_) AllReadyH.nil
        go_simp
        refine (set_AllN _ _ _ (((HS1.out _ (HON.out _ hC)).1).nums (HON.out _ hC).size)).mono ?_
        rintro e wx ⟨N, rfl, hN1, hN2, hBx⟩
        replace hC := below_step hC hBx
        clear hBx
        go_wp2_with fail
        refine hK.out _ _ ?_ (fun hHeldX => ?_)
        · trivial
        clear hK K hHeld
        rename _ => hHeld
        try simp only [Act.put, List.setIfInBounds_toArray, List.set_cons_zero, List.set_cons_succ]
        refine wpAnyH_ready (rs := [5]) (by kernel_rfl) (by simp) ?_
        refine AllReadyH.cons (o := ⟨some 13, _, _, _, _, _⟩) rfl (fun K hK => ?_) AllReadyH.nil
        go_simp
        refine (seq_appN w0.heap.size N _ _ _ _ _ (own_only hrow (Only.of_below hC (fun _ => False)) (fun _ _ h => h)) (HON.out _ hC).size hN1 hN2 (HS1.out _ (HON.out _ hC)).1 (by have := HL.out; first | omega | (simp only [gath, List.length_append] at this ⊢; omega))).mono ?_
        rintro e wx ⟨a2, n2, c2, rfl, hrow2, hB2⟩
        have hb2 := boxed_below (boxed_below hbox hC hbox.lt) hB2 hX
        have hD := hC
        replace hC := True.intro
        go_wp2_with fail
        refine hK.out _ _ ?_ (fun hHeldX => ?_)
        · trivial
        clear hK K hHeld
        rename _ => hHeld
        try simp only [Act.put, List.setIfInBounds_toArray, List.set_cons_zero, List.set_cons_succ]
        refine wpAnyH_ready (rs := [6]) (by kernel_rfl) (by simp) ?_
        refine AllReadyH.cons (o := ⟨none, _, _, _, _, _⟩) rfl (fun K hK => ?_) AllReadyH.nil
        have cX := hb2.cell
        have fX := hb2.frozen
        go_simp
        clear cX fX
        refine hK.out _ _ ?_ (fun hHeldX => ?_)
        · trivial
        clear hK K hHeld
        rename _ => hHeld
        try simp only [Act.put, List.setIfInBounds_toArray, List.set_cons_zero, List.set_cons_succ]
        refine wpAnyH_done (by kernel_rfl) ?_ _
        refine NoPanic.normal ?_
        go_wp2_with fail
        go_meet
        case rel => exact Lib.hid (GSt.made (boxed_below hbox hD hbox.lt) (HON.out _ hD) hX hrow2 hB2)
      · go_simp
        refine (HK.out [35] _ (HON.out _ hC)).mono ?_
        rintro e wx ⟨rfl, hBx⟩
        replace hC := below_step hC hBx
        clear hBx
        go_wp2_with fail
        refine hK.out _ _ ?_ (fun hHeldX => ?_)
        · trivial
        clear hK K hHeld
        rename _ => hHeld
        try simp only [Act.put, List.setIfInBounds_toArray, List.set_cons_zero, List.set_cons_succ]
        refine wpAnyH_ready (rs := [0, 3]) (by kernel_rfl) (by simp) ?_
        refine AllReadyH.cons (o := ⟨some 8, _, _, _, _, _⟩) rfl (fun K hK => ?_) (AllReadyH.cons (o := ⟨some 11, _, _, _, _, _⟩) rfl (fun K hK => ?_) AllReadyH.nil)
        · have cX := (boxed_below hbox hC hbox.lt).cell
          go_simp
          clear cX
          refine hK.out _ _ ?_ (fun hHeldX => ?_)
          · trivial
          clear hK K hHeld
          rename _ => hHeld
          try simp only [Act.put, List.setIfInBounds_toArray, List.set_cons_zero, List.set_cons_succ]
          refine wpAnyH_ready (rs := [3]) (by kernel_rfl) (by simp) ?_
          refine AllReadyH.cons (o := ⟨some 11, _, _, _, _, _⟩) rfl (fun K hK => ?_) AllReadyH.nil
          go_simp
          refine (HS1.out _ (HON.out _ hC)).2.mono ?_
          rintro e wx ⟨rfl, hBx⟩
          replace hC := below_step hC hBx
          clear hBx
          go_wp2_with fail
          refine hK.out _ _ ?_ (fun hHeldX => ?_)
          · trivial
          clear hK K hHeld
          rename _ => hHeld
          try simp only [Act.put, List.setIfInBounds_toArray, List.set_cons_zero, List.set_cons_succ]
          refine wpAnyH_ready (rs := [4]) (by kernel_rfl) (by simp) ?_
          refine AllReadyH.cons (o := ⟨some 12, _, _, _, _, _⟩) rfl (fun K hK => ?_) AllReadyH.nil
          go_simp
          refine (set_AllN _ _ _ (((HS1.out _ (HON.out _ hC)).1).nums (HON.out _ hC).size)).mono ?_
          rintro e wx ⟨N, rfl, hN1, hN2, hBx⟩
          replace hC := below_step hC hBx
          clear hBx
          go_wp2_with fail
          refine hK.out _ _ ?_ (fun hHeldX => ?_)
          · trivial
          clear hK K hHeld
          rename _ => hHeld
          try simp only [Act.put, List.setIfInBounds_toArray, List.set_cons_zero, List.set_cons_succ]
          refine wpAnyH_ready (rs := [5]) (by kernel_rfl) (by simp) ?_
          refine AllReadyH.cons (o := ⟨some 13, _, _, _, _, _⟩) rfl (fun K hK => ?_) AllReadyH.nil
          go_simp
          refine (seq_appN w0.heap.size N _ _ _ _ _ (own_only hrow (Only.of_below hC (fun _ => False)) (fun _ _ h => h)) (HON.out _ hC).size hN1 hN2 (HS1.out _ (HON.out _ hC)).1 (by have := HL.out; first | omega | (simp only [gath, List.length_append] at this ⊢; omega))).mono ?_
          rintro e wx ⟨a2, n2, c2, rfl, hrow2, hB2⟩
          have hb2 := boxed_below (boxed_below hbox hC hbox.lt) hB2 hX
          have hD := hC
          replace hC := True.intro
          go_wp2_with fail
          refine hK.out _ _ ?_ (fun hHeldX => ?_)
          · trivial
          clear hK K hHeld
          rename _ => hHeld
          try simp only [Act.put, List.setIfInBounds_toArray, List.set_cons_zero, List.set_cons_succ]
          refine wpAnyH_ready (rs := [6]) (by kernel_rfl) (by simp) ?_
          refine AllReadyH.cons (o := ⟨none, _, _, _, _, _⟩) rfl (fun K hK => ?_) AllReadyH.nil
          have cX := hb2.cell
          have fX := hb2.frozen
          go_simp
          clear cX fX
          refine hK.out _ _ ?_ (fun hHeldX => ?_)
          · trivial
          clear hK K hHeld
          rename _ => hHeld
          try simp only [Act.put, List.setIfInBounds_toArray, List.set_cons_zero, List.set_cons_succ]
          refine wpAnyH_done (by kernel_rfl) ?_ _
          refine NoPanic.normal ?_
          go_wp2_with fail
          go_meet
          case rel => exact Lib.hid (GSt.made (boxed_below hbox hD hbox.lt) (HON.out _ hD) hX hrow2 hB2)
        · go_simp
          refine (HS1.out _ (HON.out _ hC)).2.mono ?_
          rintro e wx ⟨rfl, hBx⟩
          replace hC := below_step hC hBx
          clear hBx
          go_wp2_with fail
          refine hK.out _ _ ?_ (fun hHeldX => ?_)
          · trivial
          clear hK K hHeld
          rename _ => hHeld
          try simp only [Act.put, List.setIfInBounds_toArray, List.set_cons_zero, List.set_cons_succ]
          refine wpAnyH_ready (rs := [0, 4]) (by kernel_rfl) (by simp) ?_
          refine AllReadyH.cons (o := ⟨some 8, _, _, _, _, _⟩) rfl (fun K hK => ?_) (AllReadyH.cons (o := ⟨some 12, _, _, _, _, _⟩) rfl (fun K hK => ?_) AllReadyH.nil)
          · have cX := (boxed_below hbox hC hbox.lt).cell
            go_simp
            clear cX
            refine hK.out _ _ ?_ (fun hHeldX => ?_)
            · trivial
            clear hK K hHeld
            rename _ => hHeld
            try simp only [Act.put, List.setIfInBounds_toArray, List.set_cons_zero, List.set_cons_succ]
            refine wpAnyH_ready (rs := [4]) (by kernel_rfl) (by simp) ?_
            refine AllReadyH.cons (o := ⟨some 12, _, _, _, _, _⟩) rfl (fun K hK => ?_) AllReadyH.nil
            go_simp
            refine (set_AllN _ _ _ (((HS1.out _ (HON.out _ hC)).1).nums (HON.out _ hC).size)).mono ?_
            rintro e wx ⟨N, rfl, hN1, hN2, hBx⟩
            replace hC := below_step hC hBx
            clear hBx
            go_wp2_with fail
            refine hK.out _ _ ?_ (fun hHeldX => ?_)
            · trivial
            clear hK K hHeld
            rename _ => hHeld
            try simp only [Act.put, List.setIfInBounds_toArray, List.set_cons_zero, List.set_cons_succ]
            refine wpAnyH_ready (rs := [5]) (by kernel_rfl) (by simp) ?_
            refine AllReadyH.cons (o := ⟨some 13, _, _, _, _, _⟩) rfl (fun K hK => ?_) AllReadyH.nil
            go_simp
            refine (seq_appN w0.heap.size N _ _ _ _ _ (own_only hrow (Only.of_below hC (fun _ => False)) (fun _ _ h => h)) (HON.out _ hC).size hN1 hN2 (HS1.out _ (HON.out _ hC)).1 (by have := HL.out; first | omega | (simp only [gath, List.length_append] at this ⊢; omega))).mono ?_
            rintro e wx ⟨a2, n2, c2, rfl, hrow2, hB2⟩
            have hb2 := boxed_below (boxed_below hbox hC hbox.lt) hB2 hX
            have hD := hC
            replace hC := True.intro
            go_wp2_with fail
            refine hK.out _ _ ?_ (fun hHeldX => ?_)
            · trivial
            clear hK K hHeld
            rename _ => hHeld
            try simp only [Act.put, List.setIfInBounds_toArray, List.set_cons_zero, List.set_cons_succ]
            refine wpAnyH_ready (rs := [6]) (by kernel_rfl) (by simp) ?_
            refine AllReadyH.cons (o := ⟨none, _, _, _, _, _⟩) rfl (fun K hK => ?_) AllReadyH.nil
            have cX := hb2.cell
            have fX := hb2.frozen
            go_simp
            clear cX fX
            refine hK.out _ _ ?_ (fun hHeldX => ?_)
            · trivial
            clear hK K hHeld
            rename _ => hHeld
            try simp only [Act.put, List.setIfInBounds_toArray, List.set_cons_zero, List.set_cons_succ]
            refine wpAnyH_done (by kernel_rfl) ?_ _
            refine NoPanic.normal ?_
            go_wp2_with fail
            go_meet
            case rel => exact Lib.hid (GSt.made (boxed_below hbox hD hbox.lt) (HON.out _ hD) hX hrow2 hB2)
          · go_simp
            refine (set_AllN _ _ _ (((HS1.out _ (HON.out _ hC)).1).nums (HON.out _ hC).size)).mono ?_
            rintro e wx ⟨N, rfl, hN1, hN2, hBx⟩
            replace hC := below_step hC hBx
            clear hBx
            go_wp2_with fail
            refine hK.out _ _ ?_ (fun hHeldX => ?_)
            · trivial
            clear hK K hHeld
            rename _ => hHeld
            try simp only [Act.put, List.setIfInBounds_toArray, List.set_cons_zero, List.set_cons_succ]
            refine wpAnyH_ready (rs := [0]) (by kernel_rfl) (by simp) ?_
            refine AllReadyH.cons (o := ⟨some 8, _, _, _, _, _⟩) rfl (fun K hK => ?_) AllReadyH.nil
            have cX := (boxed_below hbox hC hbox.lt).cell
            go_simp
            clear cX
            refine hK.out _ _ ?_ (fun hHeldX => ?_)
            · trivial
            clear hK K hHeld
            rename _ => hHeld
            try simp only [Act.put, List.setIfInBounds_toArray, List.set_cons_zero, List.set_cons_succ]
            refine wpAnyH_ready (rs := [5]) (by kernel_rfl) (by simp) ?_
            refine AllReadyH.cons (o := ⟨some 13, _, _, _, _, _⟩) rfl (fun K hK => ?_) AllReadyH.nil
            go_simp
            refine (seq_appN w0.heap.size N _ _ _ _ _ (own_only hrow (Only.of_below hC (fun _ => False)) (fun _ _ h => h)) (HON.out _ hC).size hN1 hN2 (HS1.out _ (HON.out _ hC)).1 (by have := HL.out; first | omega | (simp only [gath, List.length_append] at this ⊢; omega))).mono ?_
            rintro e wx ⟨a2, n2, c2, rfl, hrow2, hB2⟩
            have hb2 := boxed_below (boxed_below hbox hC hbox.lt) hB2 hX
            have hD := hC
            replace hC := True.intro
            go_wp2_with fail
            refine hK.out _ _ ?_ (fun hHeldX => ?_)
            · trivial
            clear hK K hHeld
            rename _ => hHeld
            try simp only [Act.put, List.setIfInBounds_toArray, List.set_cons_zero, List.set_cons_succ]
            refine wpAnyH_ready (rs := [6]) (by kernel_rfl) (by simp) ?_
            refine AllReadyH.cons (o := ⟨none, _, _, _, _, _⟩) rfl (fun K hK => ?_) AllReadyH.nil
            have cX := hb2.cell
            have fX := hb2.frozen
            go_simp
            clear cX fX
            refine hK.out _ _ ?_ (fun hHeldX => ?_)
            · trivial
            clear hK K hHeld
            rename _ => hHeld
            try simp only [Act.put, List.setIfInBounds_toArray, List.set_cons_zero, List.set_cons_succ]
            refine wpAnyH_done (by kernel_rfl) ?_ _
            refine NoPanic.normal ?_
            go_wp2_with fail
            go_meet
            case rel => exact Lib.hid (GSt.made (boxed_below hbox hD hbox.lt) (HON.out _ hD) hX hrow2 hB2)
    case rest =>
      have HST1 := Lib.hid hcut.out
      by_cases hcap1 : cap = 1
      · subst hcap1
        have hr0 : r.length = 0 := by omega
        have hrn : r = [] := List.eq_nil_of_length_eq_zero hr0
        subst hrn
        clear hr0
        have IHA := Lib.hid fun (k : Key) (W : World) (B : List Int) (hB : B.length + (gath [] ((ndF (some x)).get k)).length ≤ 1000000) (hg : GSt w0 X W B) => IH.out k (some ⟨b, off, none⟩) W B hB (fun e => absurd rfl e) (.inr rfl) hg
        go_upto_region 4 with fail
        have hst : GSt w0 X wc.drew _ := HST1.out.below (Below.refl _ _).drew
        refine wp_region_noPanic ?_
        refine wp_region_held_drew (S := (fun w' => w'.cell? ⟨G, 0, none⟩ = some (.func (.func 60) #[] #[.pointer (some ⟨X, 0, none⟩), .pointer (some ⟨G, 0, none⟩)]) ∧ w'.cell? ⟨b, off, none⟩ = some (keyV y))) (by kernel_rfl) ?_ (fun hHeld => ?_)
        · exact ⟨HG.out _ hst.only, HC.out _ hst.only⟩
        refine wpAnyH_take (i := 0) (oi := ⟨some 22, _, _, _, _, _⟩) (v := ?_) rfl (by kernel_rfl) (by kernel_rfl) (by kernel_rfl) (fun _ _ _ h => h) (Or.inl ⟨by rfl, ?_⟩) (by assumption) ?_
        rotate_left
        · (intro w hSw; (try dsimp only at hSw); go_simp; try with_reducible rfl)
        try simp only [Act.put, List.setIfInBounds_toArray, List.set_cons_zero, List.set_cons_succ]
        refine wpAnyH_take (i := 1) (oi := ⟨some 23, _, _, _, _, _⟩) (v := ?_) rfl (by kernel_rfl) (by kernel_rfl) (by kernel_rfl) (fun _ _ _ h => h) (Or.inl ⟨by rfl, ?_⟩) (by assumption) ?_
        rotate_left
        · (intro w hSw; (try dsimp only at hSw); go_simp; try with_reducible rfl)
        try simp only [Act.put, List.setIfInBounds_toArray, List.set_cons_zero, List.set_cons_succ]
        refine wpAnyH_take (i := 2) (oi := ⟨some 24, _, _, _, _, _⟩) (v := ?_) rfl (by kernel_rfl) (by kernel_rfl) (by kernel_rfl) (fun _ _ _ h => h) (Or.inl ⟨by rfl, ?_⟩) (by assumption) ?_
        rotate_left
        · (intro w hSw; (try dsimp only at hSw); go_simp; try with_reducible rfl)
        try simp only [Act.put, List.setIfInBounds_toArray, List.set_cons_zero, List.set_cons_succ]
        refine wpAnyH_take (i := 3) (oi := ⟨some 25, _, _, _, _, _⟩) (v := ?_) rfl (by kernel_rfl) (by kernel_rfl) (by kernel_rfl) (fun _ _ _ h => h) (Or.inl ⟨by rfl, ?_⟩) (by assumption) ?_
        rotate_left
        · (intro w hSw; (try dsimp only at hSw); go_simp; try with_reducible rfl)
        try simp only [Act.put, List.setIfInBounds_toArray, List.set_cons_zero, List.set_cons_succ]
        refine wpAnyH_take (i := 4) (oi := ⟨some 26, _, _, _, _, _⟩) (v := ?_) rfl (by kernel_rfl) (by kernel_rfl) (by kernel_rfl) (fun _ _ _ h => h) (Or.inl ⟨by rfl, ?_⟩) (by assumption) ?_
        rotate_left
        · (intro w hSw; (try dsimp only at hSw); go_simp; try with_reducible rfl)
        try simp only [Act.put, List.setIfInBounds_toArray, List.set_cons_zero, List.set_cons_succ]
        refine wpAnyH_take (i := 6) (oi := ⟨some 28, _, _, _, _, _⟩) (v := ?_) rfl (by kernel_rfl) (by kernel_rfl) (by kernel_rfl) (fun _ _ _ h => h) (Or.inl ⟨by rfl, ?_⟩) (by assumption) ?_
        rotate_left
        · (intro w hSw; (try dsimp only at hSw); go_simp; try with_reducible rfl)
        try simp only [Act.put, List.setIfInBounds_toArray, List.set_cons_zero, List.set_cons_succ]
        refine wpAnyH_take (i := 7) (oi := ⟨some 29, _, _, _, _, _⟩) (v := ?_) rfl (by kernel_rfl) (by kernel_rfl) (by kernel_rfl) (fun _ _ _ h => h) (Or.inl ⟨by rfl, ?_⟩) (by assumption) ?_
        rotate_left
        · (intro w hSw; (try dsimp only at hSw); go_simp; try with_reducible rfl)
        try simp only [Act.put, List.setIfInBounds_toArray, List.set_cons_zero, List.set_cons_succ]
        refine wpAnyH_ready (rs := [5]) (by kernel_rfl) (by simp) ?_
        refine AllReadyH.cons (o := ⟨some 27, _, _, _, _, _⟩) rfl (fun K hK => ?_) AllReadyH.nil
        go_simp
        refine (HK.out y _ hst.only).mono ?_
        rintro e wx ⟨rfl, hBx⟩
        replace hst := hst.below hBx
        clear hBx
        go_wp2_with fail
        refine hK.out _ _ ?_ (fun hHeldX => ?_)
        · exact ⟨HG.out _ hst.only, HC.out _ hst.only⟩
        clear hK K hHeld
        rename _ => hHeld
        try simp only [Act.put, List.setIfInBounds_toArray, List.set_cons_zero, List.set_cons_succ]
        refine wpAnyH_ready (rs := [8]) (by kernel_rfl) (by simp) ?_
        refine AllReadyH.cons (o := ⟨some 30, _, _, _, _, _⟩) rfl (fun K hK => ?_) AllReadyH.nil
        go_simp
        refine (IHA.out y _ _ (by have := HL.out; first | omega | (simp only [List.length_append] at this ⊢; omega)) hst).mono ?_
        rintro e wx ⟨rfl, hst2⟩
        replace hst := hst2
        clear hst2
        go_wp2_with fail
        refine hK.out _ _ ?_ (fun hHeldX => ?_)
        · exact ⟨HG.out _ hst.only, HC.out _ hst.only⟩
        clear hK K hHeld
        rename _ => hHeld
        try simp only [Act.put, List.setIfInBounds_toArray, List.set_cons_zero, List.set_cons_succ]
        refine wpAnyH_done (by kernel_rfl) ?_ _
        refine NoPanic.normal ?_
        have HST2 := Lib.hid hst
        clear hst
        go_upto_region 5 with fail
        have hst : GSt w0 X wx.drew _ := HST2.out.below (Below.refl _ _).drew
        refine wp_region_noPanic ?_
        refine wp_region_held_drew (S := (fun w' => w'.cell? ⟨G, 0, none⟩ = some (.func (.func 60) #[] #[.pointer (some ⟨X, 0, none⟩), .pointer (some ⟨G, 0, none⟩)]) ∧ w'.cell? ⟨b, off, none⟩ = some (keyV y))) (by kernel_rfl) ?_ (fun hHeld => ?_)
        · exact ⟨HG.out _ hst.only, HC.out _ hst.only⟩
        refine wpAnyH_take (i := 0) (oi := ⟨some 31, _, _, _, _, _⟩) (v := ?_) rfl (by kernel_rfl) (by kernel_rfl) (by kernel_rfl) (fun _ _ _ h => h) (Or.inl ⟨by rfl, ?_⟩) (by assumption) ?_
        rotate_left
        · (intro w hSw; (try dsimp only at hSw); go_simp; try with_reducible rfl)
        try simp only [Act.put, List.setIfInBounds_toArray, List.set_cons_zero, List.set_cons_succ]
        refine wpAnyH_take (i := 1) (oi := ⟨some 32, _, _, _, _, _⟩) (v := ?_) rfl (by kernel_rfl) (by kernel_rfl) (by kernel_rfl) (fun _ _ _ h => h) (Or.inl ⟨by rfl, ?_⟩) (by assumption) ?_
        rotate_left
        · (intro w hSw; (try dsimp only at hSw); go_simp; try with_reducible rfl)
        try simp only [Act.put, List.setIfInBounds_toArray, List.set_cons_zero, List.set_cons_succ]
        refine wpAnyH_take (i := 3) (oi := ⟨some 34, _, _, _, _, _⟩) (v := ?_) rfl (by kernel_rfl) (by kernel_rfl) (by kernel_rfl) (fun _ _ _ h => h) (Or.inl ⟨by rfl, ?_⟩) (by assumption) ?_
        rotate_left
        · (intro w hSw; (try dsimp only at hSw); go_simp; try with_reducible rfl)
        try simp only [Act.put, List.setIfInBounds_toArray, List.set_cons_zero, List.set_cons_succ]
        refine wpAnyH_take (i := 4) (oi := ⟨some 35, _, _, _, _, _⟩) (v := ?_) rfl (by kernel_rfl) (by kernel_rfl) (by kernel_rfl) (fun _ _ _ h => h) (Or.inl ⟨by rfl, ?_⟩) (by assumption) ?_
        rotate_left
        · (intro w hSw; (try dsimp only at hSw); go_simp; try with_reducible rfl)
        try simp only [Act.put, List.setIfInBounds_toArray, List.set_cons_zero, List.set_cons_succ]
        refine wpAnyH_ready (rs := [2]) (by kernel_rfl) (by simp) ?_
        refine AllReadyH.cons (o := ⟨some 33, _, _, _, _, _⟩) rfl (fun K hK => ?_) AllReadyH.nil
        go_simp
        refine (HK.out [43] _ hst.only).mono ?_
        rintro e wx ⟨rfl, hBx⟩
        replace hst := hst.below hBx
        clear hBx
        go_wp2_with fail
        refine hK.out _ _ ?_ (fun hHeldX => ?_)
        · exact ⟨HG.out _ hst.only, HC.out _ hst.only⟩
        clear hK K hHeld
        rename _ => hHeld
        try simp only [Act.put, List.setIfInBounds_toArray, List.set_cons_zero, List.set_cons_succ]
        refine wpAnyH_ready (rs := [5]) (by kernel_rfl) (by simp) ?_
        refine AllReadyH.cons (o := ⟨some 36, _, _, _, _, _⟩) rfl (fun K hK => ?_) AllReadyH.nil
        go_simp
        refine (IHA.out [43] _ _ (by have := HL.out; first | omega | (simp only [List.length_append] at this ⊢; omega)) hst).mono ?_
        rintro e wx ⟨rfl, hst2⟩
        replace hst := hst2
        clear hst2
        go_wp2_with fail
        refine hK.out _ _ ?_ (fun hHeldX => ?_)
        · exact ⟨HG.out _ hst.only, HC.out _ hst.only⟩
        clear hK K hHeld
        rename _ => hHeld
        try simp only [Act.put, List.setIfInBounds_toArray, List.set_cons_zero, List.set_cons_succ]
        refine wpAnyH_done (by kernel_rfl) ?_ _
        refine NoPanic.normal ?_
        have HST3 := Lib.hid hst
        clear hst
        go_wp2
        first | (go_end0; refine ⟨rfl, ?_⟩) | trace_state
        rw [gath, ← List.append_assoc, ← List.append_assoc]
        exact HST3.out
      · have IHA := Lib.hid fun (k : Key) (W : World) (B : List Int) (hB : B.length + (gath r ((ndF (some x)).get k)).length ≤ 1000000) (hg : GSt w0 X W B) => IH.out k (some ⟨b, off + 1, none⟩) W B hB (fun _ => rfl) (.inl rfl) hg
        go_upto_region 4 with fail
        have hst : GSt w0 X wc.drew _ := HST1.out.below (Below.refl _ _).drew
        refine wp_region_noPanic ?_
        refine wp_region_held_drew (S := (fun w' => w'.cell? ⟨G, 0, none⟩ = some (.func (.func 60) #[] #[.pointer (some ⟨X, 0, none⟩), .pointer (some ⟨G, 0, none⟩)]) ∧ w'.cell? ⟨b, off, none⟩ = some (keyV y))) (by kernel_rfl) ?_ (fun hHeld => ?_)
        · exact ⟨HG.out _ hst.only, HC.out _ hst.only⟩
        refine wpAnyH_take (i := 0) (oi := ⟨some 22, _, _, _, _, _⟩) (v := ?_) rfl (by kernel_rfl) (by kernel_rfl) (by kernel_rfl) (fun _ _ _ h => h) (Or.inl ⟨by rfl, ?_⟩) (by assumption) ?_
        rotate_left
        · (intro w hSw; (try dsimp only at hSw); go_simp; try with_reducible rfl)
        try simp only [Act.put, List.setIfInBounds_toArray, List.set_cons_zero, List.set_cons_succ]
        refine wpAnyH_take (i := 1) (oi := ⟨some 23, _, _, _, _, _⟩) (v := ?_) rfl (by kernel_rfl) (by kernel_rfl) (by kernel_rfl) (fun _ _ _ h => h) (Or.inl ⟨by rfl, ?_⟩) (by assumption) ?_
        rotate_left
        · (intro w hSw; (try dsimp only at hSw); go_simp; try with_reducible rfl)
        try simp only [Act.put, List.setIfInBounds_toArray, List.set_cons_zero, List.set_cons_succ]
        refine wpAnyH_take (i := 2) (oi := ⟨some 24, _, _, _, _, _⟩) (v := ?_) rfl (by kernel_rfl) (by kernel_rfl) (by kernel_rfl) (fun _ _ _ h => h) (Or.inl ⟨by rfl, ?_⟩) (by assumption) ?_
        rotate_left
        · (intro w hSw; (try dsimp only at hSw); go_simp; try with_reducible rfl)
        try simp only [Act.put, List.setIfInBounds_toArray, List.set_cons_zero, List.set_cons_succ]
        refine wpAnyH_take (i := 3) (oi := ⟨some 25, _, _, _, _, _⟩) (v := ?_) rfl (by kernel_rfl) (by kernel_rfl) (by kernel_rfl) (fun _ _ _ h => h) (Or.inl ⟨by rfl, ?_⟩) (by assumption) ?_
        rotate_left
        · (intro w hSw; (try dsimp only at hSw); go_simp; try with_reducible rfl)
        try simp only [Act.put, List.setIfInBounds_toArray, List.set_cons_zero, List.set_cons_succ]
        refine wpAnyH_take (i := 4) (oi := ⟨some 26, _, _, _, _, _⟩) (v := ?_) rfl (by kernel_rfl) (by kernel_rfl) (by kernel_rfl) (fun _ _ _ h => h) (Or.inl ⟨by rfl, ?_⟩) (by assumption) ?_
        rotate_left
        · (intro w hSw; (try dsimp only at hSw); go_simp; try with_reducible rfl)
        try simp only [Act.put, List.setIfInBounds_toArray, List.set_cons_zero, List.set_cons_succ]
        refine wpAnyH_take (i := 6) (oi := ⟨some 28, _, _, _, _, _⟩) (v := ?_) rfl (by kernel_rfl) (by kernel_rfl) (by kernel_rfl) (fun _ _ _ h => h) (Or.inl ⟨by rfl, ?_⟩) (by assumption) ?_
        rotate_left
        · (intro w hSw; (try dsimp only at hSw); go_simp; try with_reducible rfl)
        try simp only [Act.put, List.setIfInBounds_toArray, List.set_cons_zero, List.set_cons_succ]
        refine wpAnyH_take (i := 7) (oi := ⟨some 29, _, _, _, _, _⟩) (v := ?_) rfl (by kernel_rfl) (by kernel_rfl) (by kernel_rfl) (fun _ _ _ h => h) (Or.inl ⟨by rfl, ?_⟩) (by assumption) ?_
        rotate_left
        · (intro w hSw; (try dsimp only at hSw); go_simp; try with_reducible rfl)
        try simp only [Act.put, List.setIfInBounds_toArray, List.set_cons_zero, List.set_cons_succ]
        refine wpAnyH_ready (rs := [5]) (by kernel_rfl) (by simp) ?_
        refine AllReadyH.cons (o := ⟨some 27, _, _, _, _, _⟩) rfl (fun K hK => ?_) AllReadyH.nil
        go_simp
        refine (HK.out y _ hst.only).mono ?_
        rintro e wx ⟨rfl, hBx⟩
        replace hst := hst.below hBx
        clear hBx
        go_wp2_with fail
        refine hK.out _ _ ?_ (fun hHeldX => ?_)
        · exact ⟨HG.out _ hst.only, HC.out _ hst.only⟩
        clear hK K hHeld
        rename _ => hHeld
        try simp only [Act.put, List.setIfInBounds_toArray, List.set_cons_zero, List.set_cons_succ]
        refine wpAnyH_ready (rs := [8]) (by kernel_rfl) (by simp) ?_
        refine AllReadyH.cons (o := ⟨some 30, _, _, _, _, _⟩) rfl (fun K hK => ?_) AllReadyH.nil
        go_simp
        refine (IHA.out y _ _ (by have := HL.out; first | omega | (simp only [List.length_append] at this ⊢; omega)) hst).mono ?_
        rintro e wx ⟨rfl, hst2⟩
        replace hst := hst2
        clear hst2
        go_wp2_with fail
        refine hK.out _ _ ?_ (fun hHeldX => ?_)
        · exact ⟨HG.out _ hst.only, HC.out _ hst.only⟩
        clear hK K hHeld
        rename _ => hHeld
        try simp only [Act.put, List.setIfInBounds_toArray, List.set_cons_zero, List.set_cons_succ]
        refine wpAnyH_done (by kernel_rfl) ?_ _
        refine NoPanic.normal ?_
        have HST2 := Lib.hid hst
        clear hst
        go_upto_region 5 with fail
        have hst : GSt w0 X wx.drew _ := HST2.out.below (Below.refl _ _).drew
        refine wp_region_noPanic ?_
        refine wp_region_held_drew (S := (fun w' => w'.cell? ⟨G, 0, none⟩ = some (.func (.func 60) #[] #[.pointer (some ⟨X, 0, none⟩), .pointer (some ⟨G, 0, none⟩)]) ∧ w'.cell? ⟨b, off, none⟩ = some (keyV y))) (by kernel_rfl) ?_ (fun hHeld => ?_)
        · exact ⟨HG.out _ hst.only, HC.out _ hst.only⟩
        refine wpAnyH_take (i := 0) (oi := ⟨some 31, _, _, _, _, _⟩) (v := ?_) rfl (by kernel_rfl) (by kernel_rfl) (by kernel_rfl) (fun _ _ _ h => h) (Or.inl ⟨by rfl, ?_⟩) (by assumption) ?_
        rotate_left
        · (intro w hSw; (try dsimp only at hSw); go_simp; try with_reducible rfl)
        try simp only [Act.put, List.setIfInBounds_toArray, List.set_cons_zero, List.set_cons_succ]
        refine wpAnyH_take (i := 1) (oi := ⟨some 32, _, _, _, _, _⟩) (v := ?_) rfl (by kernel_rfl) (by kernel_rfl) (by kernel_rfl) (fun _ _ _ h => h) (Or.inl ⟨by rfl, ?_⟩) (by assumption) ?_
        rotate_left
        · (intro w hSw; (try dsimp only at hSw); go_simp; try with_reducible rfl)
        try simp only [Act.put, List.setIfInBounds_toArray, List.set_cons_zero, List.set_cons_succ]
        refine wpAnyH_take (i := 3) (oi := ⟨some 34, _, _, _, _, _⟩) (v := ?_) rfl (by kernel_rfl) (by kernel_rfl) (by kernel_rfl) (fun _ _ _ h => h) (Or.inl ⟨by rfl, ?_⟩) (by assumption) ?_
        rotate_left
        · (intro w hSw; (try dsimp only at hSw); go_simp; try with_reducible rfl)
        try simp only [Act.put, List.setIfInBounds_toArray, List.set_cons_zero, List.set_cons_succ]
        refine wpAnyH_take (i := 4) (oi := ⟨some 35, _, _, _, _, _⟩) (v := ?_) rfl (by kernel_rfl) (by kernel_rfl) (by kernel_rfl) (fun _ _ _ h => h) (Or.inl ⟨by rfl, ?_⟩) (by assumption) ?_
        rotate_left
        · (intro w hSw; (try dsimp only at hSw); go_simp; try with_reducible rfl)
        try simp only [Act.put, List.setIfInBounds_toArray, List.set_cons_zero, List.set_cons_succ]
        refine wpAnyH_ready (rs := [2]) (by kernel_rfl) (by simp) ?_
        refine AllReadyH.cons (o := ⟨some 33, _, _, _, _, _⟩) rfl (fun K hK => ?_) AllReadyH.nil
        go_simp
        refine (HK.out [43] _ hst.only).mono ?_
        rintro e wx ⟨rfl, hBx⟩
        replace hst := hst.below hBx
        clear hBx
        go_wp2_with fail
        refine hK.out _ _ ?_ (fun hHeldX => ?_)
        · exact ⟨HG.out _ hst.only, HC.out _ hst.only⟩
        clear hK K hHeld
        rename _ => hHeld
        try simp only [Act.put, List.setIfInBounds_toArray, List.set_cons_zero, List.set_cons_succ]
        refine wpAnyH_ready (rs := [5]) (by kernel_rfl) (by simp) ?_
        refine AllReadyH.cons (o := ⟨some 36, _, _, _, _, _⟩) rfl (fun K hK => ?_) AllReadyH.nil
        go_simp
        refine (IHA.out [43] _ _ (by have := HL.out; first | omega | (simp only [List.length_append] at this ⊢; omega)) hst).mono ?_
        rintro e wx ⟨rfl, hst2⟩
        replace hst := hst2
        clear hst2
        go_wp2_with fail
        refine hK.out _ _ ?_ (fun hHeldX => ?_)
        · exact ⟨HG.out _ hst.only, HC.out _ hst.only⟩
        clear hK K hHeld
        rename _ => hHeld
        try simp only [Act.put, List.setIfInBounds_toArray, List.set_cons_zero, List.set_cons_succ]
        refine wpAnyH_done (by kernel_rfl) ?_ _
        refine NoPanic.normal ?_
        have HST3 := Lib.hid hst
        clear hst
        go_wp2
        first | (go_end0; refine ⟨rfl, ?_⟩) | trace_state
        rw [gath, ← List.append_assoc, ← List.append_assoc]
        exact HST3.out
theorem gathers (w0 : World) (X G : Nat) (hX : X < w0.heap.size) (hG : Boxed w0 G 89 (gfn X G)) (hGX : G ≠ X) : ∀ T, Gathers w0 X G T
  | [] => gathers_nil w0 X G hX
  | y :: r => gathers_cons w0 X G hX hG hGX y r (gathers w0 X G hX hG hGX r)
end Go.Proofs.YtmfejpbijllojaaGreat
