/- Layer 14, the law: a node with pairs. · 'append' of whatever slice of numbers to a row of the call's own. -/
import Derived.Test.YtabgedmocdjkcaaJoin37
import Derived.Test.YtabgedmocdjkcaaJoin4
import Derived.Test.YtabgedmocdjkcaaJoin18
import Derived.Laws.AppendOwnNone
import Derived.OwnWalk
namespace Go.Proofs.Ytabgedmocdjkcaa
open Go.RowKit Go.Shelf

theorem nums_at {W : World} {a : Option Addr} {n c : Nat} {L : List Int} (h : NumsIn W (.slice a n c) L) (k : Nat) (x : Int) (hx : L[k]? = some x) : ∃ b off, a = some ⟨b, off, none⟩ ∧ b < W.heap.size ∧ W.cell? ⟨b, off + k, none⟩ = some (.int .i64 x) := by
  obtain ⟨h0, ⟨_, h1⟩ | ⟨b, off, cap, hv, _, h3, h4⟩⟩ := h
  · have : L = [] := List.eq_nil_of_length_eq_zero h1
    subst this; simp at hx
  · cases hv
    exact ⟨b, off, rfl, h3, h4 k _ (by rw [List.getElem?_map, hx]; rfl)⟩
attribute [local go_sem] Oper.semAt_some
set_option maxRecDepth 100000 in
set_option maxHeartbeats 4000000 in
theorem of_seqO (B1 B2 : Nat) (a1 a2 : Option Addr) (T : List Key) (N : List Int) (c1 c2 : Nat) (w : World) (h1 : Boxed w B1 22 (.slice a1 T.length c1)) (h2 : Boxed w B2 23 (.slice a2 N.length c2)) (hT : TextsIn w a1 T) (hN : ListIn numV w a2 N) (hl1 : T.length ≤ 1000000) :
    SeqO Try.prog 17 #[.pointer (some ⟨B1, 0, none⟩), .pointer (some ⟨B2, 0, none⟩)] encPr (fun _ => False) (fun xs => xs = T.zip N) (fun pre => pre <+: T.zip N) w := by
  intro l J Jx C W hb hA hw hJ hJx hY h0
  show Calls Try.prog 17 #[.func (.yield l) #[] #[], .pointer (some ⟨B1, 0, none⟩), .pointer (some ⟨B2, 0, none⟩)] W _
  have hz := hb.size
  have HBL : Hid (∀ wr, Only C W wr → Below w.heap.size w wr) := Lib.hid fun wr ho => hb.trans (ho.below hz fun k hk hc => (hA k hc).elim id fun h => by omega)
  have HB1 : Hid (∀ wr, Only C W wr → wr.cell? ⟨B1, 0, none⟩ = some (.slice a1 T.length c1)) := Lib.hid fun wr ho => (boxed_below h1 (HBL.out wr ho) h1.lt).cell
  have HB2 : Hid (∀ wr, Only C W wr → wr.cell? ⟨B2, 0, none⟩ = some (.slice a2 N.length c2)) := Lib.hid fun wr ho => (boxed_below h2 (HBL.out wr ho) h2.lt).cell
  have HT : Hid (∀ wr, Only C W wr → ∀ j x, T[j]? = some x → ∃ b off, a1 = some ⟨b, off, none⟩ ∧ wr.cell? ⟨b, off + j, none⟩ = some (.string ⟨x.toArray⟩)) := Lib.hid fun wr ho j x hx => by
    obtain ⟨b, off, e1, e2, e3⟩ := hT j x hx
    exact ⟨b, off, e1, ((HBL.out wr ho).cell (p := ⟨b, off + j, none⟩) e2).trans e3⟩
  have HN : Hid (∀ wr, Only C W wr → ∀ j x, N[j]? = some x → ∃ b off, a2 = some ⟨b, off, none⟩ ∧ wr.cell? ⟨b, off + j, none⟩ = some (.int .i64 x)) := Lib.hid fun wr ho j x hx => by
    obtain ⟨b, off, e1, e2, e3⟩ := hN j x hx
    exact ⟨b, off, e1, ((HBL.out wr ho).cell (p := ⟨b, off + j, none⟩) e2).trans e3⟩
  have HY := Lib.hid hY
  have HJ := Lib.hid hJ
  have HZ : Hid ((T.zip N).length = min T.length N.length) := Lib.hid List.length_zip
  have HZA : Hid (∀ k t i, T[k]? = some t → N[k]? = some i → (T.zip N)[k]? = some (t, i)) := Lib.hid fun k t i h1 h2 => by
    rw [List.getElem?_zip_eq_some]; exact ⟨h1, h2⟩
  clear hY hJ hJx h1 h2 hT hN hb hA hz
  refine (callsIn_wide (n := 3)).1 ?_
  refine callsIn_of_wp Try.func17 rfl trivial ?_ rfl
  simp only [Try.ntmps17, List.size_toArray, List.length_cons, List.length_nil, Nat.reduceAdd, Nat.reduceSub, Array.replicate_succ, Array.replicate_zero, List.push_toArray, List.append_toArray, List.nil_append, List.cons_append]
  gi_wp2
  gi_loopw [4] (fun i wr => ∃ k : Nat, k ≤ (T.zip N).length ∧ i = .int .i64 (k : Int) ∧ ∃ C1, Grow C C1 W ∧ Only C W wr ∧ Wn C1 wr ∧ J C1 ((T.zip N).take k) wr) (fun i _ => (T.zip N).length - (intOf i).toNat)
  case atStart => exact ⟨0, Nat.zero_le _, rfl, C, Grow.refl _ _, Only.refl _ _, hw, h0⟩
  case round =>
    obtain ⟨k, hk, rfl, C1, hg, ho, hwn, hj⟩ := hrel
    have d1 := HB1.out wr ho
    have d2 := HB2.out wr ho
    by_cases hkl : k < (T.zip N).length
    · have hk1 : k < T.length := by have := HZ.out; omega
      have hk2 : k < N.length := by have := HZ.out; omega
      obtain ⟨t, ht⟩ : ∃ t, T[k]? = some t := ⟨_, List.getElem?_eq_getElem hk1⟩
      obtain ⟨i, hi⟩ : ∃ i, N[k]? = some i := ⟨_, List.getElem?_eq_getElem hk2⟩
      obtain ⟨b1, f1, rfl, e1⟩ := HT.out wr ho k t ht
      obtain ⟨b2, f2, rfl, e2⟩ := HN.out wr ho k i hi
      have hzk := HZA.out k t i ht hi
      have TK : Hid ((T.zip N).take (k + 1) = (T.zip N).take k ++ [(t, i)]) := by
        show _ = _
        obtain ⟨q1, q2⟩ := List.getElem?_eq_some_iff.1 hzk
        rw [List.take_succ_eq_append_getElem q1, q2]
      have oD : Only C W wr.drew := ho.trans ((Only.refl C wr).drewN 1)
      have hwD : Wn C1 wr.drew := hwn.le (Nat.le_refl _)
      have hjD := HJ.out _ _ _ _ hj hwn ((Only.refl (fun k => ¬ C1 k) wr).drewN 1)
      obtain ⟨fn, tmps, assign, body, hyy, hR⟩ := HY.out C1 ((T.zip N).take k) (t, i) wr.drew (by rw [← TK.out]; exact List.take_prefix _ _) hjD hg oD hwD 2
      have hR : RoundIn Fence.wide 2 Try.prog l fn tmps assign body _ fun e W' => ∃ b, e = .returned (.bool b) ∧ ∃ C', Grow C1 C' wr.drew ∧ Only C1 wr.drew W' ∧ Wn C' W' ∧ ((b = true ∧ J C' ((T.zip N).take (k + 1)) W') ∨ (b = false ∧ Jx C' ((T.zip N).take (k + 1)) W')) := hR.mono fun e W' h => by
        obtain ⟨C', g1, g2, g3, ⟨h1, h2⟩ | ⟨h1, h2⟩⟩ := h
        · exact ⟨true, h1, C', g1, g2, g3, .inl ⟨rfl, by rw [TK.out]; exact h2⟩⟩
        · exact ⟨false, h1, C', g1, g2, g3, .inr ⟨rfl, by rw [TK.out]; exact h2⟩⟩
      dsimp only [encPr] at hyy
      rw [show strV t = Value.string ⟨t.toArray⟩ from rfl] at hyy
      have HHG := Lib.hid hg
      have HHO := Lib.hid oD
      clear ht hi hzk hj hjD hwD hwn TK
      gi_wp2
      gi_region_with (refine hR.mono ?_; rintro e W3 ⟨b, rfl, C2, g2, o2, w2, hd⟩)
      all_goals
        rcases hd with ⟨rfl, hJ3⟩ | ⟨rfl, hJx3⟩
        · gi_wp2
          go_roundw
          case rel => exact ⟨k + 1, by omega, by go_num, C2, HHG.out.trans g2 HHO.out.size, HHO.out.grow o2 HHG.out, w2, hJ3⟩
          case measure => simp [intOf]; omega
        · gi_wp2
          refine bodyPost_ret (results_none rfl _ _ _) rfl ?_
          exact ⟨⟨_, rfl⟩, C2, HHG.out.trans g2 HHO.out.size, HHO.out.grow o2 HHG.out, w2, .inr ⟨_, List.take_prefix _ _, hJx3⟩⟩
    · have hend : Hid (J C1 (T.zip N) wr) := Lib.hid (by rw [List.take_of_length_le (by omega)] at hj; exact hj)
      have HHG := Lib.hid hg
      have HHO := Lib.hid ho
      have HHW := Lib.hid hwn
      clear hj hg ho hwn
      by_cases hk1 : k < T.length
      · have hk2 : ¬ k < N.length := by have := HZ.out; omega
        clear hkl
        gi_wp2
        go_end0
        exact ⟨⟨_, rfl⟩, C1, HHG.out, HHO.out, HHW.out, .inl ⟨_, rfl, hend.out⟩⟩
      · clear hkl
        gi_wp2
        go_end0
        exact ⟨⟨_, rfl⟩, C1, HHG.out, HHO.out, HHW.out, .inl ⟨_, rfl, hend.out⟩⟩
theorem twoO (W : World) (v u : Value) : ∃ W2, (W.alloc (.cells #[v] 22)).alloc (.cells #[u] 23) = W2 ∧ Below W.heap.size W W2 ∧ Boxed W2 W.heap.size 22 v ∧ Boxed W2 (W.heap.size + 1) 23 u := by
  have b2 := Boxed.new (W.alloc (.cells #[v] 22)) 23 u
  rw [World.size_alloc] at b2
  exact ⟨_, rfl, below_step (new_below _ _) (new_below _ _), (Boxed.new _ _ _).alloc _, b2⟩
set_option maxRecDepth 100000 in
theorem law_of {a1 a2 : Option Addr} {T : List Key} {N : List Int} {c1 c2 : Nat} {W : World} (hT : TextsIn W a1 T) (hN : ListIn numV W a2 N) (hl1 : T.length ≤ 200) (hl : ∀ x ∈ T, x.length ≤ 100) :
    Calls Try.prog 8 #[.slice a1 T.length c1, .slice a2 N.length c2] W fun e w' => ∃ o, e = .returned (ndP o) ∧ WTr o (T.zip N) ∧ NodeIs (fun _ => False) w' o ∧ Below W.heap.size W w' := by
  obtain ⟨W2, hW2, B2, b1, b2⟩ := twoO W (.slice a1 T.length c1) (.slice a2 N.length c2)
  have hs := of_seqO W.heap.size (W.heap.size + 1) a1 a2 T N c1 c2 W2 b1 b2 (fun i x hx => by
    obtain ⟨b, off, e1, e2, e3⟩ := hT i x hx
    exact ⟨b, off, e1, Nat.lt_of_lt_of_le e2 B2.size, (B2.cell (p := ⟨b, off + i, none⟩) e2).trans e3⟩) (hN.below B2) (by omega)
  have hof := walk_Of (enters_of Try.func17 (by kernel_rfl) rfl) (fun w => by rfl) hs (by rw [List.length_zip]; omega) (fun x hx => hl _ (List.of_mem_zip hx).1)
  have HB2 := Lib.hid B2
  clear hs hT hN hl b1 b2 B2
  go_enter Try.func8, Try.ntmps8
  go_wp2_with fail
  try rw [hW2]
  refine hof.mono ?_
  rintro e w' ⟨o, rfl, h1, h2, h3⟩
  have HE := Lib.hid (And.intro h1 (And.intro h2 (below_step HB2.out h3)))
  clear h1 h2 h3 hof hW2
  go_wp2
  go_ret
  exact ⟨o, rfl, HE.out.1, HE.out.2.1, HE.out.2.2⟩
end Go.Proofs.Ytabgedmocdjkcaa

namespace Go.Proofs.Ytabgedmocdjkcaa
open Go.RowKit

theorem num_one' (L : List Int) : ∀ u ∈ L.map numV, u.oneCell' = true := fun u hu => by
  obtain ⟨x, _, rfl⟩ := List.mem_map.1 hu
  rfl
theorem run_append_any (W : World) (base : Nat) (ty : TypeId) (v u : Value) (M R : List Int) (hown : W.ownsRow base 3 1 v M.length (M.map numV)) (hsrc : NumsIn W u R) (hbig : M.length + R.length ≤ 1000000) (hbase : base ≤ W.heap.size) :
    ∃ v' w', (Builtin.append_ #[23, 23] ty #[v, u]).run Try.prog W = .ok v' w' ∧ w'.ownsRow base 3 1 v' (M ++ R).length ((M ++ R).map numV) ∧ W.grownBy w' v.ownBlock := by
  obtain ⟨i0, hi, hz0, hz1, hz2⟩ := info_parts infoInt
  rcases hsrc.2 with ⟨rfl, h0⟩ | ⟨b, off, cap, rfl, _, _, hc⟩
  · obtain rfl : R = [] := List.eq_nil_of_length_eq_zero h0
    rw [List.append_nil]
    exact ⟨v, W, run_append_owned_none (P := Try.prog) (w := W) base 23 ty 3 i0 1 Try.underlying23 hi v _ _ hown, hown, ⟨rfl, rfl, rfl, Nat.le_refl _, fun _ _ _ => rfl⟩⟩
  · obtain ⟨v', w', h1, h2, h3, _⟩ := run_append_own (P := Try.prog) W base 23 ty 3 i0 (.int .i64 0) 1 8 Try.underlying23 hi hz0 hz1 hz2 rfl (by decide) v _ _ hown ⟨b, off, none⟩ R.length cap (R.map numV) (by simp) hc.get (num_one' R) (by simp only [maxLen]; omega) (by omega) hbase
    exact ⟨v', w', h1, by rw [List.length_append, List.map_append]; exact h2, h3⟩
theorem own_lower {w : World} {base lo : Nat} {e : TypeId} {size n : Nat} {v : Value} {xs : List Value} (h : w.ownsRow base e size v n xs) (hl : lo ≤ base) : w.ownsRow lo e size v n xs := by
  refine ⟨h.1, ?_⟩
  rcases h.2 with hn | ⟨g, cap, cur, hv, hg, rest⟩
  · exact .inl hn
  · exact .inr ⟨g, cap, cur, hv, Nat.le_trans hl hg, rest⟩
/-- Nothing, in a block just made. -/
theorem own_empty (w : World) : (w.alloc (.cells #[] 3)).ownsRow w.heap.size 3 1 (.slice (some ⟨w.heap.size, 0, none⟩) 0 0) ([] : List Int).length (([] : List Int).map numV) :=
  ⟨by simp, .inr ⟨w.heap.size, 0, #[], rfl, Nat.le_refl _, (by show (w.heap.push _)[w.heap.size]? = _; simp), Nat.le_refl _, by simp, by simp, by simp⟩⟩
/-- A copy: what is appended to nothing. -/
theorem run_append_copy (w : World) (ty : TypeId) (u : Value) (R : List Int) (hsrc : NumsIn w u R) (hbig : R.length ≤ 1000000) :
    ∃ v' w', (Builtin.append_ #[23, 23] ty #[.slice (some ⟨w.heap.size, 0, none⟩) 0 0, u]).run Try.prog (w.alloc (.cells #[] 3)) = .ok v' w' ∧ w'.ownsRow w.heap.size 3 1 v' R.length (R.map numV) ∧ Below w.heap.size w w' := by
  obtain ⟨v', w', h1, h2, h3⟩ := run_append_any (w.alloc (.cells #[] 3)) w.heap.size ty (.slice (some ⟨w.heap.size, 0, none⟩) 0 0) u [] R (own_empty w) (hsrc.below ((Below.refl _ _).alloc (Nat.le_refl _) _)) (by simpa using hbig) (by simp)
  refine ⟨v', w', h1, by simpa using h2, ?_⟩
  exact ((Below.refl _ _).alloc (Nat.le_refl _) _).grown h3 (by simp) (fun k hk => by simp [Value.ownBlock] at hk; omega)

theorem blk_ne10 {t t' : TypeId} {w : World} {B B' : Nat} {l l' : List Value} (h : Blk t w B l) (h' : Blk t' w B' l') (hne : t ≠ t') : B ≠ B' := by
  rintro rfl
  have h1 : w.heap[B]? = _ := h
  rw [show w.heap[B]? = _ from h'] at h1
  injection h1 with h1
  injection h1 with _ h1
  exact hne h1.symm
/-- 'append' by its run's equation, at a plain region's list. -/
theorem wpList_append_run {P : Program} {ops : Array Oper} {rest : List Oper} {o : Oper} {a : Act} {w : World} {Q : Exit → Act → World → Prop} (hgd : o.guard = none) (s x : Operand) (t : TypeId) (ho : o.op = .call { callee := .builtin .append, args := #[s, x], argTypes := #[t, t] })
    (v u v' : Value) (w' : World) (hs : a.eval s = v) (hx : a.eval x = u) (hr : (Builtin.append_ #[t, t] o.type #[v, u]).run P w = .ok v' w') (h : wpList P ops Q rest (a.put o.dst v') w') : wpList P ops Q (o :: rest) a w :=
  wpList_plain hgd fun _ hK => by
    unfold Oper.wp execOp
    simp only [ho, resolve, invoke, builtin, Sem.run_bind, Sem.run_pure, Result.andThen_ok, List.map_toArray, List.map_cons, List.map_nil, hs, hx, hr]
    exact hK _ _ h

end Go.Proofs.Ytabgedmocdjkcaa
