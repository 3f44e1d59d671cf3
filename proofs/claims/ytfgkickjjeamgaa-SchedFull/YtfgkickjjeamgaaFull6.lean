/- Layer 6: a thread that never ends, as plain reckoning, and its step. -/
import Derived.Test.YtfgkickjjeamgaaLaw6
import Derived.BigQuiet
import Derived.Deep.QuietTactic
namespace Go.Proofs.Ytfgkickjjeamgaa
open Go.RowKit

def fullM : Mach Int where
  n := 1
  fin := fun _ _ => false
  go := fun a _ => (wrap64 (a + 1), decide (wrap64 (a + 1) < 70000))

theorem full_left (a : Int) : leftN fullM a = 1 := rfl
structure FullJ (s : RS Int) : Prop where
  a : s.a = (s.moves.length : Int)
  le : s.moves.length ≤ 65536
theorem full_over {s : RS Int} (h : s.over fullM = false) : s.moves.length < 65536 := by
  have := RS.over_moves (m := fullM) (s := s) (by simp [h])
  exact this.1
theorem full_call {s : RS Int} (h : FullJ s) (hlt : s.moves.length < 65536) : s.call fullM 0 = ⟨s.a + 1, s.moves ++ [0], s.calls + 1⟩ := by
  rw [RS.call_go (by simp [RS.idle, fullM])]
  have hw : wrap64 (s.a + 1) = s.a + 1 := by have := h.a; unfold wrap64; omega
  have hd : decide (s.a + 1 < 70000) = true := by have := h.a; simp; omega
  simp only [fullM, hw, hd, if_true]
theorem full_take {s : RS Int} (h : FullJ s) (t : Int) : FullJ (s.take fullM t) := by
  rcases ho : s.over fullM with _ | _
  · rw [RS.take_go t ho]
    by_cases hi : s.idle fullM t
    · rw [RS.call_idle hi]; exact h
    · obtain rfl : t = 0 := by
        unfold RS.idle at hi
        simp [fullM] at hi
        omega
      have hlt := full_over ho
      rw [full_call h hlt]
      exact ⟨by simp [h.a], by simp; omega⟩
  · rw [RS.take_over t ho]; exact h
theorem full_picks (l : List Int) : ∀ {s : RS Int}, FullJ s → FullJ (s.picks fullM l) := by
  induction l with
  | nil => exact fun h => h
  | cons t l ih => exact fun h => ih (full_take h t)
theorem full_rounds (j : Nat) : ∀ {s : RS Int}, FullJ s → 65536 < j + s.moves.length → FullJ (RS.rounds fullM j s) ∧ (RS.rounds fullM j s).moves.length = 65536 := by
  induction j with
  | zero => exact fun h hj => absurd h.le (by omega)
  | succ j ih =>
    intro s h hj
    rcases ho : s.over fullM with _ | _
    · have hlt := full_over ho
      have e : s.upto fullM fullM.n = ⟨s.a + 1, s.moves ++ [0], s.calls + 1⟩ := by
        show s.take fullM 0 = _
        rw [RS.take_go _ ho, full_call h hlt]
      rw [RS.rounds_next j (by rw [e]; simp), e]
      exact ih ⟨by simp [h.a], by simp; omega⟩ (by simp; omega)
    · rw [RS.rounds_over ho]
      refine ⟨h, ?_⟩
      have h2 := h.le
      simp [RS.over, full_left] at ho
      omega
theorem full_run (L : List Int) : (RS.run fullM 0 L).a = 65536 ∧ (RS.run fullM 0 L).moves.length = 65536 ∧ (RS.run fullM 0 L).err fullM = 12 := by
  have h0 : FullJ ⟨0, [], 0⟩ := ⟨rfl, Nat.zero_le _⟩
  obtain ⟨h1, h2⟩ := full_rounds 65537 (full_picks L h0) (by omega)
  refine ⟨?_, h2, rfl⟩
  have := h1.a
  rw [h2] at this
  exact this

/-- The step. -/
abbrev againV (Bn Ba : Nat) : Value := fnV 13 #[.pointer (some ⟨Bn, 0, none⟩), .pointer (some ⟨Ba, 0, none⟩)]
structure FullInv (Bn Ba : Nat) (M : Nat → Prop) (a : Int) (vs : List Value) (w : World) : Prop where
  mn : ¬ M Bn
  ma : ¬ M Ba
  ne : Bn ≠ Ba
  num : Blk 3 w Bn [.int .i64 a]
  fn : Blk 45 w Ba [againV Bn Ba]
  vs : vs = [againV Bn Ba]
theorem again_call {Bn Ba : Nat} {M : Nat → Prop} {a : Int} {vs : List Value} {w : World} (h : FullInv Bn Ba M a vs w) :
    Calls Try.prog 13 #[.pointer (some ⟨Bn, 0, none⟩), .pointer (some ⟨Ba, 0, none⟩)] w fun e w' =>
      e = .returned (.tuple #[againV Bn Ba, .bool (decide (wrap64 (a + 1) < 70000))]) ∧ ∃ n, w' = (w.setCell ⟨Bn, 0, none⟩ (.int .i64 (wrap64 (a + 1)))).drewN n := by
  have c0 := h.num.at (o := 0) rfl
  have f0 := h.num.frozen 0
  have c1 := (h.num.set 0 (.int .i64 (wrap64 (a + 1)))).at (o := 0) rfl
  have c2 := (h.fn.setOther (C := Bn) (fun e => h.ne e.symm) 0 (.int .i64 (wrap64 (a + 1)))).at (o := 0) rfl
  clear h
  go_enter Try.func13, Try.ntmps13
  go_wp2_with fail
  go_quiet (fail)
  go_wp2
  go_ret2
  exact ⟨rfl, _, rfl⟩
theorem full_sys (Bn Ba : Nat) : Sys fullM (FullInv Bn Ba) where
  len := fun h => by rw [h.vs]; rfl
  val := fun h t v hv => by
    rw [h.vs] at hv
    refine .inr ⟨13, #[.pointer (some ⟨Bn, 0, none⟩), .pointer (some ⟨Ba, 0, none⟩)], ?_, fun _ _ => by kernel_rfl, rfl⟩
    match t, hv with
    | 0, hv => cases hv; rfl
  frame := fun {M M' a vs w w'} h h1 h2 ho => by
    have hn : ∀ k, k < w.heap.size → ¬ M k → ¬ M' k := fun k hk hm hm' => by
      rcases h2 k hm' with h3 | h3
      · exact hm h3
      · omega
    have n1 := hn Bn h.num.lt h.mn
    have n2 := hn Ba h.fn.lt h.ma
    exact ⟨n1, n2, h.ne, h.num.only ho n1, h.fn.only ho n2, h.vs⟩
  step := fun {M a vs w} h t f c hv => by
    obtain ⟨rfl, e⟩ : t = 0 ∧ fnV f c = againV Bn Ba := by
      rw [h.vs] at hv
      match t, hv with
      | 0, hv => exact ⟨rfl, (Option.some.inj hv).symm⟩
    cases e
    refine (again_call h).mono ?_
    rintro e w' ⟨rfl, n, rfl⟩
    refine ⟨_, rfl, ((Only.refl _ _).setCell (p := ⟨Bn, 0, none⟩) (.inl h.mn) _).drewN n, h.mn, h.ma, h.ne, ?_, ?_, ?_⟩
    · exact (h.num.set 0 _).drewN n
    · exact (h.fn.setOther (fun e => h.ne e.symm) 0 _).drewN n
    · rw [h.vs]; split <;> rfl

/-- A thread that never ends, run. -/
theorem full_told {w : World} {Bn Ba : Nat} {w2 : World} {L : List Int} {pa : Option Addr} {pc : Nat} (h1 : Below w.heap.size w w2) (hv : FullInv Bn Ba (fun k => k < w.heap.size) 0 [againV Bn Ba] w2) (hp : ListIn numV w pa L) (hL : L.length ≤ 500) :
    Calls Try.prog 8 #[.slice pa L.length pc, .slice (some ⟨w2.heap.size, 0, none⟩) 1 1] (w2.alloc (.cells #[againV Bn Ba] 45)) fun e w' =>
      ∃ a c n, e = .returned (.agg #[.slice a 65536 c, numV n, numV 12]) ∧ Blk 3 w' Bn [.int .i64 65536] ∧ Below w.heap.size w w' := by
  have hblk : Blk 45 (w2.alloc (.cells #[againV Bn Ba] 45)) w2.heap.size [againV Bn Ba] := Blk.new (l := [againV Bn Ba])
  have h3 : Below w2.heap.size w2 (w2.alloc (.cells #[againV Bn Ba] 45)) := (Below.refl _ _).alloc (Nat.le_refl _) _
  have z1 := h1.size
  have z3 := h3.size
  generalize w2.alloc (.cells #[againV Bn Ba] 45) = w3 at *
  have hs : SliceK w3 1 (.slice (some ⟨w2.heap.size, 0, none⟩) 1 1) 1 [againV Bn Ba] := ⟨rfl, .inr ⟨_, 0, 1, rfl, Nat.le_refl _, hblk.lt, cellsAt_of_heap hblk⟩⟩
  have hb : Below w.heap.size w w3 := h1.trans (h3.mono z1)
  have hv3 := (full_sys Bn Ba).still hv (Only.of_below h3 _)
  refine (sched_Run (full_sys Bn Ba) hv3 hs (by decide) (pa := pa) (pc := pc) (L := L) (fun w' ho => hp.below (hb.trans (ho.below (by omega) (fun k hk => by simpa using hk)))) (by omega)).mono ?_
  obtain ⟨e1, e2, e3⟩ := full_run L
  rintro e w' ⟨⟨M, mv, vs, rfl, hN, _, _, hI⟩, ho⟩
  rw [e1] at hI
  rw [e3]
  obtain ⟨a, c, rfl, _⟩ := hN.form
  rw [e2]
  exact ⟨a, c, _, rfl, hI.num, hb.trans (ho.below (by omega) (fun k hk => by simpa using hk))⟩

/-- The law. -/
theorem full6 (pa : Option Addr) (pc : Nat) (L : List Int) (w : World) (hp : ListIn numV w pa L) : Calls Try.prog 5 #[.slice pa L.length pc] w fun e w' => e = .returned (.bool true) ∧ Below w.heap.size w w' := by
  have HP := Lib.hid hp
  clear hp
  have hsf := fun (a : Addr) (c : Array Value) (w : World) => run_store Try.prog w a (.func (.func 13) #[] c) .plain rfl
  by_cases hL : L.length ≤ 500
  · go_enter Try.func5, Try.ntmps5
    go_wp2_with fail
    refine (awake6 w).mono ?_
    rintro e w1 ⟨rfl, hB⟩
    have B1 := Lib.hid hB
    clear hB
    go_wp2_with fail
    have T : Calls Try.prog 8 #[.slice pa L.length pc, .slice (some ⟨w1.heap.size + 1 + 1, 0, none⟩) 1 1] (((w1.alloc (.cells #[.int .i64 0] 3)).alloc (.cells #[againV w1.heap.size (w1.heap.size + 1)] 45)).alloc (.cells #[againV w1.heap.size (w1.heap.size + 1)] 45)) fun e w' =>
        ∃ a c n, e = .returned (.agg #[.slice a 65536 c, numV n, numV 12]) ∧ Blk 3 w' w1.heap.size [.int .i64 65536] ∧ Below w1.heap.size w1 w' := by
      have hsz : ((w1.alloc (.cells #[.int .i64 0] 3)).alloc (.cells #[againV w1.heap.size (w1.heap.size + 1)] 45)).heap.size = w1.heap.size + 1 + 1 := by simp
      have hb1 : Blk 3 ((w1.alloc (.cells #[.int .i64 0] 3)).alloc (.cells #[againV w1.heap.size (w1.heap.size + 1)] 45)) w1.heap.size [.int .i64 0] := (Blk.new (l := [.int .i64 0])).alloc _
      have hb2 : Blk 45 ((w1.alloc (.cells #[.int .i64 0] 3)).alloc (.cells #[againV w1.heap.size (w1.heap.size + 1)] 45)) (w1.heap.size + 1) [againV w1.heap.size (w1.heap.size + 1)] := by
        have := Blk.new (t := 45) (W := w1.alloc (.cells #[.int .i64 0] 3)) (l := [againV w1.heap.size (w1.heap.size + 1)])
        simpa using this
      have := full_told (w := w1) (pc := pc) (Bn := w1.heap.size) (Ba := w1.heap.size + 1) (((Below.refl w1.heap.size w1).alloc (Nat.le_refl _) (.cells #[.int .i64 0] 3)).alloc (by simp) (.cells #[againV w1.heap.size (w1.heap.size + 1)] 45))
        ⟨by omega, by omega, by omega, hb1, hb2, rfl⟩ (HP.out.below B1.out) hL
      rw [hsz] at this
      exact this
    refine T.mono ?_
    clear T
    rintro e w3 ⟨a, c, n, rfl, hN, hB⟩
    have c0 := (hN.alloc (.cells #[.slice a 65536 c, .int .i64 n, .int .i64 12] 33)).at (o := 0) rfl
    have K := Lib.hid (below_step B1.out hB)
    clear hN hB
    go_wp2
    go_ret
    exact ⟨rfl, K.out.alloc K.out.size _⟩
  · go_enter Try.func5, Try.ntmps5
    go_wp2_with fail
    refine (awake6 w).mono ?_
    rintro e w1 ⟨rfl, hB⟩
    have B1 := Lib.hid hB
    clear hB
    go_wp2
    go_ret
    exact ⟨rfl, B1.out⟩

end Go.Proofs.Ytfgkickjjeamgaa
