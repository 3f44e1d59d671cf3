/- Layer 7 (package hist): the place of a call in its thread. -/
import Derived.Test.YtjkabbabhfipbaaLog7
import Derived.Deep.Cut
namespace Go.Proofs.Ytjkabbabhfipbaa
open Go.RowKit

theorem eql_map_some (b : Nat) (w : World) : (binOp .eql 57 (.map (some b)) (.map none)).run Try.prog w = .ok (.bool false) w := by kernel_rfl
theorem eql_map_none (w : World) : (binOp .eql 57 (.map none) (.map none)).run Try.prog w = .ok (.bool true) w := by kernel_rfl
theorem map_look_n {w : World} {b n : Nat} {f : Int → Nat} {M : Int → Option Value} {th : Int} (hth : wf64 th) (hM : MapF Try.prog 3 w b n M) (hm : ∀ x, wf64 x → (M x).getD (.int .i64 0) = .int .i64 (f x : Nat)) :
    (Instr.lookup 57 (.map (some b)) (.int .i64 th) false).run Try.prog w = .ok (.int .i64 (f th : Nat)) w := by
  have := hM.look intKeyed Try.underlying3 Try.underlying57 (zeroInt _) hth
  rwa [hm th hth] at this
theorem place_made {Bl : Nat} {cv : Value} {n : Nat} {f : Int → Nat} {now th : Int} (hn : n ≤ 1000000) (hf : ∀ x, f x ≤ 1000000) (hth : wf64 th) {w : World} {b : Nat} {M : Int → Option Value} (h : Blk 59 w Bl [cv, .map (some b), .int .i64 now]) (hM : MapF Try.prog 3 w b n M) (hm : ∀ x, wf64 x → (M x).getD (.int .i64 0) = .int .i64 (f x : Nat)) :
    Calls Try.prog 20 #[.pointer (some ⟨Bl, 0, none⟩), .int .i64 th] w fun e w' => PlaceTo Bl cv (.map (some b)) n f now th w e w' := by
  have hmf := mf7
  have hq := eql_map_some b
  have hBb : Bl ≠ b := fun e => hM.ne_blk h e.symm
  have o1 : Only (fun _ => False) w (((w.alloc (.cells #[.pointer (some ⟨Bl, 0, none⟩)] 24)).alloc (.cells #[.int .i64 th] 3))) := ((Only.refl _ _).alloc _).alloc _
  have cp := ((Blk.new (W := w) (t := 24) (l := [.pointer (some ⟨Bl, 0, none⟩)])).alloc (.cells #[.int .i64 th] 3)).at (o := 0) rfl
  have cq := (Blk.new (W := w.alloc (.cells #[.pointer (some ⟨Bl, 0, none⟩)] 24)) (t := 3) (l := [.int .i64 th])).at (o := 0) rfl
  have e1 : (w.alloc (.cells #[.pointer (some ⟨Bl, 0, none⟩)] 24)).heap.size = w.heap.size + 1 := by simp
  rw [e1] at cq
  go_enter_defers Try.func20, Try.ntmps20
  go_upto_region 1 with fail
  generalize ((w.alloc (.cells #[.pointer (some ⟨Bl, 0, none⟩)] 24)).alloc (.cells #[.int .i64 th] 3)) = w1 at o1 cp cq ⊢
  have h1 := h.only o1 id
  have hM1 := hM.only o1 id
  have c1 := h1.at (o := 1) rfl
  have hl := map_look_n hth hM1 hm
  have hl2 := map_look_n (w := w1.drew) hth hM1 hm
  have K := Lib.hid (And.intro h1 (And.intro hM1 (And.intro o1 (And.intro cp (And.intro cq (And.intro c1 hm))))))
  clear h1 hM1 o1 h hM hm
  go_wp2
  go_region
  go_wp2
  obtain ⟨h1, hM1, o1, cp', cq', c1', hm⟩ := K.out
  refine leaves_cons (f := 29) (args := #[.pointer (some ⟨w.heap.size, 0, none⟩), .pointer (some ⟨w.heap.size + 1, 0, none⟩)]) (by simp) (by simp [go_sem]) ?_
  refine (place_1 (th := th) (Bl := Bl) (b := b) (n := n) (M := M) (c := f th) .returning w1.drew cp' cq' c1' hM1 hn hth (hm th hth) (hf th)).mono ?_
  rintro e u' w'' ⟨rfl, rfl, hM2, ho2⟩
  have ho2' : Only (· = b) w1 w'' := ⟨ho2.os, ho2.tape, ho2.output, ho2.size, ho2.block⟩
  refine ⟨_, results_tmp rfl _ _ _, rfl, ⟨_, h1.only ho2' hBb, began_up hM2 hm, .inl rfl⟩, ?_⟩
  exact (o1.mono (fun _ _ h => h.elim)).step ho2' (fun i _ e => by subst e; exact .inr rfl)

theorem place_nil {Bl : Nat} {cv : Value} {n : Nat} {f : Int → Nat} {now th : Int} (hn : n ≤ 1000000) (hf : ∀ x, f x = 0) (hth : wf64 th) {w : World} (h : Blk 59 w Bl [cv, .map none, .int .i64 now]) :
    Calls Try.prog 20 #[.pointer (some ⟨Bl, 0, none⟩), .int .i64 th] w fun e w' => PlaceTo Bl cv (.map none) n f now th w e w' := by
  have hmf := mf7
  have HF := Lib.hid hf
  clear hf
  have hq := eql_map_none
  have hmm := @run_makeMap Try.prog
  have o1 : Only (fun _ => False) w (((w.alloc (.cells #[.pointer (some ⟨Bl, 0, none⟩)] 24)).alloc (.cells #[.int .i64 th] 3))) := ((Only.refl _ _).alloc _).alloc _
  have cp := ((Blk.new (W := w) (t := 24) (l := [.pointer (some ⟨Bl, 0, none⟩)])).alloc (.cells #[.int .i64 th] 3))
  have cq := (Blk.new (W := w.alloc (.cells #[.pointer (some ⟨Bl, 0, none⟩)] 24)) (t := 3) (l := [.int .i64 th]))
  have e1 : (w.alloc (.cells #[.pointer (some ⟨Bl, 0, none⟩)] 24)).heap.size = w.heap.size + 1 := by simp
  have e2 : ((w.alloc (.cells #[.pointer (some ⟨Bl, 0, none⟩)] 24)).alloc (.cells #[.int .i64 th] 3)).heap.size = w.heap.size + 2 := by simp
  rw [e1] at cq
  go_enter_defers Try.func20, Try.ntmps20
  go_upto_region 1 with fail
  generalize ((w.alloc (.cells #[.pointer (some ⟨Bl, 0, none⟩)] 24)).alloc (.cells #[.int .i64 th] 3)) = w1 at o1 cp cq e2 ⊢
  have hlt := h.lt
  have h1 := h.only o1 id
  have c1 := h1.at (o := 1) rfl
  have cp1 := cp.at (o := 0) rfl
  have f1 := (h1.alloc (.map #[] 0)).frozen 1
  have c1a := (h1.alloc (.map #[] 0)).at (o := 1) rfl
  have K := Lib.hid (And.intro h1 (And.intro o1 (And.intro cp (And.intro cq e2))))
  clear h1 o1 h cp cq
  go_wp2
  obtain ⟨h1, o1, cp, cq, _⟩ := K.out
  have h2 := (h1.alloc (.map #[] 0)).set 1 (.map (some w1.heap.size))
  have o2 : Only (· = Bl) w1 ((w1.alloc (.map #[] 0)).setCell ⟨Bl, 1, none⟩ (.map (some w1.heap.size))) := ((Only.refl (· = Bl) w1).alloc _).setCell (p := ⟨Bl, 1, none⟩) (.inl rfl) _
  have hM : MapF Try.prog 3 ((w1.alloc (.map #[] 0)).setCell ⟨Bl, 1, none⟩ (.map (some w1.heap.size))) w1.heap.size 0 (fun _ => none) :=
    (MapF.made Try.prog 3 w1).only ((Only.refl (· = Bl) _).setCell (p := ⟨Bl, 1, none⟩) (.inl rfl) _) (by omega)
  rw [e2] at h2 o2 hM
  generalize ((w1.alloc (.map #[] 0)).setCell ⟨Bl, 1, none⟩ (.map (some (w.heap.size + 2)))) = w2 at h2 o2 hM ⊢
  have hm : ∀ x, wf64 x → ((fun _ => none : Int → Option Value) x).getD (.int .i64 0) = .int .i64 (f x : Nat) := fun x _ => by rw [HF.out x]; rfl
  have hl := map_look_n hth hM hm
  have hl2 := map_look_n (w := w2.drew) hth hM hm
  have c2 := h2.at (o := 1) rfl
  have hB1 : Bl ≠ w.heap.size := by omega
  have hB2 : Bl ≠ w.heap.size + 1 := by omega
  have cp2 := (cp.only o2 (fun e => hB1 e.symm)).at (o := 0) rfl
  have cq2 := (cq.only o2 (fun e => hB2 e.symm)).at (o := 0) rfl
  have K2 := Lib.hid (And.intro h2 (And.intro hM (And.intro (o1.mono (T := fun k => k = Bl ∨ Value.map none = .map (some k)) (fun _ _ h => h.elim)) (And.intro o2 (And.intro cp2 (And.intro cq2 (And.intro c2 hm)))))))
  clear h2 hM o1 o2 cp cq h1 hm
  go_region
  go_wp2
  obtain ⟨h2, hM, o1, o2, cp', cq', c1', hm⟩ := K2.out
  refine leaves_cons (f := 29) (args := #[.pointer (some ⟨w.heap.size, 0, none⟩), .pointer (some ⟨w.heap.size + 1, 0, none⟩)]) (by simp) (by simp [go_sem]) ?_
  refine (place_1 (th := th) (Bl := Bl) (b := w.heap.size + 2) (n := n) (M := fun _ => none) (c := f th) .returning w2.drew cp' cq' c1' (hM.mono (Nat.zero_le _)) hn hth (hm th hth) (by rw [HF.out]; omega)).mono ?_
  rintro e u' w'' ⟨rfl, rfl, hM2, ho2⟩
  have ho2' : Only (· = w.heap.size + 2) w2 w'' := ⟨ho2.os, ho2.tape, ho2.output, ho2.size, ho2.block⟩
  have hne : Bl ≠ w.heap.size + 2 := by omega
  refine ⟨_, results_tmp rfl _ _ _, rfl, ⟨.map (some (w.heap.size + 2)), h2.only ho2' hne, began_up (n := n) (M := fun _ => none) hM2 hm, .inr ⟨w.heap.size + 2, rfl, Nat.le_add_right _ _⟩⟩, ?_⟩
  exact (o1.step o2 (fun i _ e => .inl e)).step ho2' (fun i hi e => by exfalso; omega)
theorem log_place {Bl : Nat} {cv mv : Value} {n : Nat} {f : Int → Nat} {now th : Int} (hn : n ≤ 1000000) (hf : ∀ x, f x ≤ 1000000) (hth : wf64 th) {w : World} (h : Blk 59 w Bl [cv, mv, .int .i64 now]) (hb : BeganIs w mv n f) :
    Calls Try.prog 20 #[.pointer (some ⟨Bl, 0, none⟩), .int .i64 th] w fun e w' => PlaceTo Bl cv mv n f now th w e w' := by
  rcases hb with ⟨rfl, h0⟩ | ⟨b, M, rfl, hM, hm⟩
  · exact place_nil hn h0 hth h
  · exact place_made hn hf hth h hM hm

end Go.Proofs.Ytjkabbabhfipbaa
