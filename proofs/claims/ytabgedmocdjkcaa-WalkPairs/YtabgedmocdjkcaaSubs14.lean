/- A node's subscribers, ranged over. (Drawn out of SubsX13, without what sorts.) -/
import Derived.Test.YtabgedmocdjkcaaJoin14
import Derived.Test.YtabgedmocdjkcaaTrieI13
import Derived.Test.YtabgedmocdjkcaaSeq14
import Derived.Test.YtabgedmocdjkcaaLay14
namespace Go.Proofs.Ytabgedmocdjkcaa
open Go.RowKit Go.Shelf

theorem val_nil13 (W : World) : Calls Try.prog 51 #[.pointer none] W fun e w' => e = .returned (.agg #[.slice none 0 0, .slice none 0 0, .int .i64 0]) ∧ Below W.heap.size W w' := by
  go_enter Try.func51, Try.ntmps51
  go_wp2
  refine bodyPost_ret (by simp [results, Try.f51, go_sem]; rfl) rfl ?_
  exact ⟨rfl, new_below _ _⟩
set_option maxRecDepth 100000 in
theorem val_at13 (b : Nat) (a1 a2 : Option Addr) (n1 c1 n2 c2 : Nat) (z : Int) (W : World) (hb : Blk 83 W b [.slice a1 n1 c1, .slice a2 n2 c2, .int .i64 z]) :
    Calls Try.prog 51 #[.pointer (some ⟨b, 0, none⟩)] W fun e w' => e = .returned (.agg #[.slice a1 n1 c1, .slice a2 n2 c2, .int .i64 z]) ∧ Below W.heap.size W w' := by
  have d0 : ∀ o, (W.alloc o).cell? ⟨b, 0, none⟩ = some (.slice a1 n1 c1) := fun o => (hb.alloc o).at (o := 0) rfl
  have d1 : ∀ o, (W.alloc o).cell? ⟨b, 1, none⟩ = some (.slice a2 n2 c2) := fun o => (hb.alloc o).at (o := 1) rfl
  have d2 : ∀ o, (W.alloc o).cell? ⟨b, 2, none⟩ = some (.int .i64 z) := fun o => (hb.alloc o).at (o := 2) rfl
  clear hb
  go_enter Try.func51, Try.ntmps51
  go_wp2
  refine bodyPost_ret (by simp [results, Try.f51, go_sem]; rfl) rfl ?_
  exact ⟨rfl, new_below _ _⟩
theorem nd_SubsV (p : Value) (a1 a2 : Option Addr) (n1 c1 n2 c2 : Nat) (z : Int) (W : World)
    (hval : ∀ W', Below W.heap.size W W' → Calls Try.prog 51 #[p] W' fun e w' => e = .returned (.agg #[.slice a1 n1 c1, .slice a2 n2 c2, .int .i64 z]) ∧ Below W'.heap.size W' w') :
    Calls Try.prog 35 #[p] W fun e w' => e = .returned (.agg #[.slice a1 n1 c1]) ∧ Below W.heap.size W w' := by
  have hf0 := field_subs
  have hB := new_below W
  have HV := Lib.hid (fun o => hval _ (hB o))
  clear hval
  go_enter Try.func35, Try.ntmps35
  go_wp2_with fail
  refine (HV.out _).mono ?_
  rintro e w' ⟨rfl, hB2⟩
  have B2 := Lib.hid (below_step (hB _) hB2)
  have k1 := (hB2.cell (p := ⟨W.heap.size, 0, none⟩) (by simp)).trans (show (W.alloc (.cells #[.slice none 0 0] 60)).cell? ⟨W.heap.size, 0, none⟩ = some (.slice none 0 0) by simp)
  have f1 := (hB2.frozen (p := ⟨W.heap.size, 0, none⟩) (by simp)).trans (show (W.alloc (.cells #[.slice none 0 0] 60)).frozen? ⟨W.heap.size, 0, none⟩ = false by simp)
  clear hB2
  go_wp2
  refine bodyPost_ret (by simp [results, Try.f35, go_sem, k1]; rfl) rfl ?_
  exact ⟨rfl, B2.out.setCell (p := ⟨W.heap.size, 0, none⟩) (Nat.le_refl _) _⟩
theorem SetIn.cases {W : World} {a : Option Addr} {n c : Nat} {L : List Int} (h : SetIn W (.agg #[.slice a n c]) L) : NumsIn W (.slice a n c) L := by
  obtain ⟨⟨s, hv, hs⟩, _⟩ := h
  cases hv; exact hs
theorem lies_only {w0 W : World} {v : Value} {L : List Int} {S : Nat → Prop} (h : NumsIn w0 v L) (ho : Only S w0 W) (hoff : Off S v) : LiesIn W w0.heap.size v L := by
  rcases h.lies with h1 | ⟨b, off, cap, rfl, h1, h2, h3⟩
  · exact .inl h1
  · refine .inr ⟨b, off, cap, rfl, h1, h2, fun j v hj => ?_⟩
    rw [← h3 j v hj]
    exact World.cell?_of_block (w := w0) (ho.block b h2 (hoff _ _ _ _ rfl))
theorem nd_SubsX {S : Nat → Prop} {w0 : World} {o : Nd} (h : NodeIs S w0 o) : ∃ a n c, ∀ W, Only S w0 W → LiesIn W w0.heap.size (.slice a n c) (ndL o) ∧
    Calls Try.prog 35 #[ndP o] W fun e w' => e = .returned (.agg #[.slice a n c]) ∧ Below W.heap.size W w' := by
  cases o with
  | none => exact ⟨none, 0, 0, fun W _ => ⟨.inl ⟨rfl, rfl⟩, nd_SubsV _ none none 0 0 0 0 0 W fun W' _ => val_nil13 W'⟩⟩
  | some x =>
    obtain ⟨⟨a1, n1, c1, a2, n2, c2, hb, hs, _, ho1, _, hnb⟩, _⟩ := h
    exact ⟨a1, n1, c1, fun W hO => ⟨lies_only hs.cases hO ho1, nd_SubsV _ a1 a2 n1 c1 n2 c2 _ W fun W' hW' => val_at13 x.1 a1 a2 n1 c1 n2 c2 _ W' ((hb.only hO hnb).below hW' ((hb.only hO hnb).lt))⟩⟩
theorem set_AllN (s : Value) (L : List Int) (w : World) (h : NumsIn w s L) :
    Calls Try.prog 38 #[.agg #[s]] w fun e w' => ∃ N, e = .returned (.func (.func 56) #[] #[.pointer (some ⟨N, 0, none⟩)]) ∧ N < w'.heap.size ∧ w'.cell? ⟨N, 0, none⟩ = some s ∧ Below w.heap.size w w' := by
  refine (set_All s L w h).mono ?_
  rintro e w' ⟨rfl, rfl⟩
  exact ⟨_, rfl, by simp, (Boxed.new w 60 s).cell, new_below _ _⟩

theorem boxO {S : Nat → Prop} {W W' : World} {B : Nat} {t : TypeId} {v : Value} (h : Boxed W B t v) (ho : Only S W W') (hn : ¬ S B) : Boxed W' B t v := (ho.block B h.lt hn).trans h
/-- A set's values, one by one, to a caller that has blocks from n₀ on. -/
theorem set_seqO (Bn n₀ : Nat) (s : Value) (L : List Int) (hbig : L.length ≤ 1000000) (w : World) (hBn : Bn < w.heap.size) (hn0 : n₀ ≤ w.heap.size) (hc : w.cell? ⟨Bn, 0, none⟩ = some s) (hs : LiesIn w n₀ s L) :
    SeqO Try.prog 56 #[.pointer (some ⟨Bn, 0, none⟩)] encN (fun k => n₀ ≤ k) (fun ys => ys = L) (fun pre => pre <+: L) w := by
  intro l J Jx C W hb hA hw hJ hJx hY h0
  have hC : ∀ k, C k → n₀ ≤ k := fun k hk => (hA k hk).elim id fun h => by omega
  have hz := hb.size
  refine (callsIn_wide (n := 3)).1 ((set_All1 3 (by omega) l Bn n₀ s L hbig (fun pre W1 => ∃ C1, Grow C C1 W ∧ Only C W W1 ∧ Wn C1 W1 ∧ J C1 pre W1) (fun pre W1 => ∃ C1, Grow C C1 W ∧ Only C W W1 ∧ Wn C1 W1 ∧ Jx C1 pre W1) W ?_ ((hb.cell (p := ⟨Bn, 0, none⟩) hBn).trans hc) (hs.below (hb.mono hn0)) ⟨C, Grow.refl _ _, Only.refl _ _, hw, h0⟩).mono ?_)
  · rintro pre x W1 hp ⟨C1, g1, o1, w1, j1⟩ hlt
    obtain ⟨fn, tm, asg, bd, hy, hR⟩ := hY C1 pre x W1 hp j1 g1 o1 w1 (3 - 1)
    refine ⟨fn, tm, asg, bd, hy, hR.mono ?_⟩
    rintro e W2 ⟨C2, g2, o2, w2, h⟩
    have z1 := o1.size
    have gg := g1.trans g2 z1
    have oo := o1.grow o2 g1
    rcases h with ⟨rfl, h⟩ | ⟨rfl, h⟩
    · refine .inl ⟨rfl, ⟨C2, gg, oo, w2, h⟩, o2.below (by omega) fun k hk hc1 => ?_⟩
      rcases g1 k hc1 with h | h
      · have := hC k h; omega
      · omega
    · exact .inr ⟨rfl, C2, gg, oo, w2, h⟩
  · rintro e W' ⟨hv, ⟨ys, hS, C1, g1, o1, w1, j1⟩ | ⟨pre, hS, C1, g1, o1, w1, j1⟩⟩
    · exact ⟨hv, C1, g1, o1, w1, .inl ⟨ys, hS, j1⟩⟩
    · exact ⟨hv, C1, g1, o1, w1, .inr ⟨pre, hS, j1⟩⟩

theorem extra14 : Go.Proofs.Builder.Extra Try.prog Ytabgedmocdjkcaa.layJoin_ren where
  sizeBuilder := by kernel_rfl
  liesBuilder := by kernel_rfl
  t5 := Try.underlying5
  a5 := Try.isAgg5
  z5 := Try.sizeOf5
  v5 := Try.zeroValue5
  infoByte := by kernel_rfl
  cellsByte := by kernel_rfl
  sizeByte := by kernel_rfl
  neB5 := by decide
theorem libJoin : ∀ q : List Key, Lib.join q [47] = joinZ q
  | [] => rfl
  | [x] => by rw [Lib.join_one]; rfl
  | x :: y :: r => by
    have ih := libJoin (y :: r)
    rw [Lib.join_cons] at ih ⊢
    rw [joinZ_cons x (List.cons_ne_nil y r), ← ih]
    simp [Lib.joinTail]
theorem str_Join (a : Option Addr) (cap : Nat) (q : List Key) (W : World) (hq : q ≠ []) (hT : TextsIn W a q) (hc : q.length ≤ cap) (hn : q.length ≤ 1000000) (hl : (joinZ q).length ≤ 1000000) :
    Calls Try.prog 37 #[.slice a q.length cap, .string ⟨#[47]⟩] W fun e w' => e = .returned (strV (joinZ q)) ∧ Below W.heap.size W w' := by
  obtain ⟨k, r, rfl⟩ := List.exists_cons_of_ne_nil hq
  obtain ⟨b, off, rfl, hb, _⟩ := hT 0 k rfl
  have e1 : ((k :: r).map fun x : Key => (⟨x.toArray⟩ : ByteArray)).map (·.data.toList) = k :: r := by
    rw [List.map_map]
    exact (List.map_congr_left fun x _ => by simp).trans (List.map_id _)
  have h := Any.strings_Join Ytabgedmocdjkcaa.layJoin extra14 b off cap ((k :: r).map fun x : Key => ⟨x.toArray⟩) ⟨#[47]⟩ W (fun j x hx => by
    rw [List.getElem?_map, Option.map_eq_some_iff] at hx
    obtain ⟨y, hy, rfl⟩ := hx
    obtain ⟨b', off', he, _, hc⟩ := hT j y hy
    cases he
    exact hc) hb (by rw [List.length_map]; omega) (by rw [List.length_map]; exact hc) (by rw [e1]; show (Lib.join _ [47]).length ≤ _; rw [libJoin]; omega)
  rw [e1, List.length_map] at h
  have e2 : Lib.join (k :: r) (⟨#[47]⟩ : ByteArray).data.toList = joinZ (k :: r) := libJoin _
  rw [e2] at h
  exact h
end Go.Proofs.Ytabgedmocdjkcaa
