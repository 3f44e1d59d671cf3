/- Maps of pointers: ranging over All, where a round may write to any block but that of the entries. -/
import Derived.Stop.RegionWithIn
import Derived.Test.YtabgedmocdjkcaaNodeI12
import Derived.Test.YtabgedmocdjkcaaJoin20
namespace Go.Proofs.Ytabgedmocdjkcaa
open Go.RowKit Go.Shelf

/-- What a round keeps: the cells behind this slice. -/
def KpS (s : Value) (W W' : World) : Prop := ∀ g off n c, s = .slice (some ⟨g, off, none⟩) n c → ∀ o v, W.cell? ⟨g, o, none⟩ = some v → W'.cell? ⟨g, o, none⟩ = some v
theorem KpS.refl (s : Value) (W : World) : KpS s W W := fun _ _ _ _ _ _ _ h => h
theorem KpS.trans {s : Value} {A B C : World} (h : KpS s A B) (k : KpS s B C) : KpS s A C := fun g off n c hs o v hv => k g off n c hs o v (h g off n c hs o v hv)
theorem kpS_book {s : Value} (W : World) (l : Nat) (o o' : Obj) (h : W.heap[l]? = some o) (h1 : o.isCells = false) : KpS s W (W.putObj l o') := fun g off n c _ o2 v hv =>
  cell_kept hv (grownBy_putObj' W l o') (fun r e => by cases e; exact ⟨_, h, h1⟩)
theorem kpS_alloc (s : Value) (W : World) (o : Obj) : KpS s W (W.alloc o) := fun g off n c _ o2 v hv => by
  have hlt : g < W.heap.size := by
    obtain ⟨ob, hob, _⟩ := cells_of_cell hv
    exact (Array.getElem?_eq_some_iff.1 hob).1
  rw [World.cell?_alloc_lt _ _ _ (by exact hlt)]; exact hv
theorem kpS_only {s : Value} {S : Nat → Prop} {W W' : World} (h : Only S W W') (hS : ∀ g off n c, s = .slice (some ⟨g, off, none⟩) n c → ¬ S g) : KpS s W W' := fun g off n c hs o v hv => by
  have hlt : g < W.heap.size := by
    obtain ⟨ob, hob, _⟩ := cells_of_cell hv
    exact (Array.getElem?_eq_some_iff.1 hob).1
  rw [← hv]
  exact World.cell?_of_block (w := W) (h.block g hlt (hS g off n c hs))

set_option maxRecDepth 100000 in
set_option maxHeartbeats 1000000 in
theorem kids_each1 (n : Nat) (hn : 1 ≤ n) (l Bn : Nat) (s : Value) (E : List Ent) (hbig : E.length ≤ 1000000) (J Jx : List Ent → World → Prop) (W : World) (hJ : ∀ s W o, J s W → J s (W.alloc o))
    (hY : ∀ pre x W1, x ∈ E → pre ++ [x] <+: E → J pre W1 → pre.length < E.length → YieldAt Fence.wide (n - 1) Try.prog l (encK x) W1 fun e W' =>
      (e = .returned (.bool true) ∧ J (pre ++ [x]) W' ∧ KpS s W1 W') ∨ (e = .returned (.bool false) ∧ Jx (pre ++ [x]) W'))
    (hBn : W.cell? ⟨Bn, 0, none⟩ = some s) (hs : PtsIn W s E) (h0 : J [] W) :
    CallsIn Fence.wide n Try.prog 71 #[.func (.yield l) #[] #[], .pointer (some ⟨Bn, 0, none⟩)] W fun e W' => (∃ v, e = .returned v) ∧
      ((∃ ys, ys = E ∧ J ys W') ∨ (∃ pre, pre <+: E ∧ Jx pre W')) := by
  rcases hs.2 with ⟨rfl, hE0⟩ | ⟨b, off, cap, rfl, hcap, hlt, hc⟩
  · obtain rfl : E = [] := List.eq_nil_of_length_eq_zero hE0
    refine callsIn_of_wp Try.func71 rfl trivial ?_ rfl
    simp only [Try.ntmps71, List.size_toArray, List.length_cons, List.length_nil, Nat.reduceAdd, Nat.reduceSub, Array.replicate_succ, Array.replicate_zero, List.push_toArray, List.append_toArray, List.nil_append, List.cons_append]
    gi_wp2
    gi_loopw [8] (fun i wr => i = .int .i64 0 ∧ J [] wr) (fun _ _ => 0)
    case atStart => exact ⟨rfl, h0⟩
    case round =>
      obtain ⟨rfl, hJs⟩ := hrel
      gi_wp2
      go_end0
      exact ⟨⟨_, rfl⟩, .inl ⟨[], rfl, hJs⟩⟩
  · have C : Hid (∀ wr, KpS (.slice (some ⟨b, off, none⟩) E.length cap) W wr → ∀ i p, E[i]? = some p → wr.cell? ⟨b, off + i * 2, none⟩ = some (keyV p.1) ∧ wr.cell? ⟨b, off + i * 2 + 1, none⟩ = some (ptrV p.2)) := Lib.hid fun wr hk i p hp => by
      have := pts_at E i p hp
      exact ⟨hk _ _ _ _ rfl _ _ (hc _ _ this.1), hk _ _ _ _ rfl _ _ (by rw [Nat.add_assoc]; exact hc _ _ this.2)⟩
    clear hc hs
    refine callsIn_of_wp Try.func71 rfl trivial ?_ rfl
    simp only [Try.ntmps71, List.size_toArray, List.length_cons, List.length_nil, Nat.reduceAdd, Nat.reduceSub, Array.replicate_succ, Array.replicate_zero, List.push_toArray, List.append_toArray, List.nil_append, List.cons_append]
    gi_wp2
    gi_loopw [8] (fun i wr => ∃ k : Nat, k ≤ E.length ∧ i = .int .i64 k ∧ J (E.take k) wr ∧ Hid (KpS (.slice (some ⟨b, off, none⟩) E.length cap) W wr)) (fun i _ => E.length - (intOf i).toNat)
    case atStart => exact ⟨0, Nat.zero_le _, rfl, h0, Lib.hid (KpS.refl _ _)⟩
    case round =>
      obtain ⟨k, hk, rfl, hJs, HB⟩ := hrel
      by_cases hkl : k < E.length
      · obtain ⟨p, hp⟩ : ∃ p, E[k]? = some p := ⟨_, List.getElem?_eq_getElem hkl⟩
        have T : Hid (E.take (k + 1) = E.take k ++ [p]) := by
          show _ = _
          obtain ⟨_, rfl⟩ := List.getElem?_eq_some_iff.1 hp
          exact List.take_succ_eq_append_getElem hkl
        obtain ⟨c1, c2⟩ := C.out wr HB.out k p hp
        have hpE := List.mem_of_getElem? hp
        clear hp
        have hJa := hJ _ _ (.cells #[keyV p.1, ptrV p.2] 106) hJs
        obtain ⟨fn, tmps, assign, body, hy, hR⟩ := hY (E.take k) p _ hpE (by rw [← T.out]; exact List.take_prefix _ _) hJa (by simp; omega)
        clear hpE
        dsimp only [encK] at hy
        gi_wp2
        refine hR.mono ?_
        rintro e W3 (⟨rfl, hJ3, hB3⟩ | ⟨rfl, hJx3⟩)
        · gi_wp2
          go_roundw
          case rel =>
            refine ⟨k + 1, by omega, by go_num, ?_, Lib.hid ((HB.out.trans (kpS_alloc _ _ _)).trans hB3)⟩
            rw [T.out]; exact hJ3
          case measure => simp [intOf]; omega
        · gi_wp2
          refine bodyPost_ret (results_none rfl _ _ _) rfl ?_
          refine ⟨⟨_, rfl⟩, .inr ⟨E.take k ++ [p], ?_, hJx3⟩⟩
          rw [← T.out]; exact List.take_prefix _ _
      · gi_wp2
        go_end0
        refine ⟨⟨_, rfl⟩, .inl ⟨E, rfl, ?_⟩⟩
        rw [List.take_of_length_le (by omega)] at hJs; exact hJs

/-- What All answers tells the kids one by one: each is one of them. -/
theorem kids_each_stops (n : Nat) (hn : 1 ≤ n) (Bn : Nat) (s : Value) (E : List Ent) (hbig : E.length ≤ 1000000) (w : World) (hBn : Bn < w.heap.size) (hc : w.cell? ⟨Bn, 0, none⟩ = some s) (hs : PtsIn w s E) :
    SeqStopsK (α := { p : Ent // p ∈ E }) Fence.wide n Try.prog 71 #[.pointer (some ⟨Bn, 0, none⟩)] (fun x => encK x.1) (KpS s) (fun ys => ys.map Subtype.val = E) (fun pre => pre.map Subtype.val <+: E) E.length w := fun l J Jx W hW hJ _ hY h0 => by
  refine (kids_each1 n hn l Bn s E hbig (fun pre W' => ∃ q : List { p : Ent // p ∈ E }, q.map Subtype.val = pre ∧ J q W') (fun pre W' => ∃ q : List { p : Ent // p ∈ E }, q.map Subtype.val = pre ∧ Jx q W') W
    (fun s X o ⟨q, hq, hj⟩ => ⟨q, hq, hJ _ _ _ none hj (World.grownBy_alloc X o none) (fun r e => by cases e)⟩) ?_ ((hW.cell (p := ⟨Bn, 0, none⟩) hBn).trans hc) (hs.below hW) ⟨[], rfl, h0⟩).mono ?_
  · rintro pre x W1 hx _ ⟨q, rfl, hj⟩ hlt
    obtain ⟨fn, tm, asg, bd, hy, hR⟩ := hY q ⟨x, hx⟩ W1 hj (by simpa using hlt)
    refine ⟨fn, tm, asg, bd, hy, hR.mono fun e W' h => ?_⟩
    rcases h with ⟨h1, h2, h3⟩ | ⟨h1, h2⟩
    · exact .inl ⟨h1, ⟨q ++ [⟨x, hx⟩], by simp, h2⟩, h3⟩
    · exact .inr ⟨h1, ⟨q ++ [⟨x, hx⟩], by simp, h2⟩⟩
  · rintro e W' ⟨hv, ⟨ys, rfl, q, hq, hj⟩ | ⟨pre, hp, q, hq, hj⟩⟩
    · exact ⟨hv, .inl ⟨q, hq, hj⟩⟩
    · exact ⟨hv, .inr ⟨q, (by show q.map Subtype.val <+: E; rw [hq]; exact hp), hj⟩⟩

theorem blk_own {β : Type} (t : TypeId) (B : Nat) (f : β → List Value) : Own (fun (s : β) W => Blk t W B (f s)) := fun s X Y row hs hg hrow => by
  have hlt := hs.lt
  refine (hg.block B hlt ?_).trans hs
  intro e
  obtain ⟨o, ho, hc⟩ := hrow B e.symm
  rw [show X.heap[B]? = _ from hs] at ho; cases ho; cases hc
theorem ownFrom_only12 {β : Type} {n₀ B : Nat} {S : Nat → Prop} {w₀ : World} (hn : n₀ ≤ B) (hS : ∀ k, n₀ ≤ k → S k) : OwnFrom B (fun (_ : β) W => Only S w₀ W) :=
  fun _ _ _ _ hs hg hr => hs.trans ((grown_only hg).mono (fun k _ e => hS k (by have := (hr k e).1; omega)))

end Go.Proofs.Ytabgedmocdjkcaa
