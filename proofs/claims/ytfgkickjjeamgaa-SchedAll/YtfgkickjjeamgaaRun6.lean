/- Layer 6 (package sched): the picks, and the rounds. -/
import Derived.Test.YtfgkickjjeamgaaCall6
import Derived.Test.YtfgkickjjeamgaaLists
import Derived.Deep.LoopGhost
import Derived.WalkMore
namespace Go.Proofs.Ytfgkickjjeamgaa
open Go.RowKit

theorem Turns.refl (base : Nat) (M0 K : Nat → Prop) (w : World) : Turns base M0 K w w := Only.refl _ _

theorem stand_pick {A : Type} {m : Mach A} {K : Nat → Prop} {inv : (Nat → Prop) → A → List Value → World → Prop} (S : Sys m K inv) {base Bm : Nat} {M0 : Nat → Prop} {nv : Value} {s : RS A} {w : World} (h : Stand m inv base M0 Bm nv s w) {pa : Option Addr} {pc : Nat} {L : List Int}
    (hp : ∀ w', Turns base M0 K w w' → ListIn numV w' pa L) (hl : s.moves.length ≤ 65536) (hc : s.calls + L.length ≤ 1000000000000000) (hmn : m.n ≤ 1000000) :
    Calls Try.prog 16 #[.pointer (some ⟨Bm, 0, none⟩), .slice pa L.length pc] w fun e w' => (∃ x, e = .returned x) ∧ Stand m inv base M0 Bm nv (s.picks m L) w' ∧ Turns base M0 K w w' := by
  have H := Lib.hid h
  have HP := Lib.hid hp
  clear h hp
  go_enter Try.func16, Try.ntmps16
  go_wp2_with fail
  go_loopw [5, 8] (fun _ i wr => ∃ (k : Nat), k ≤ L.length ∧ i = .int .i64 k ∧ Hid (Stand m inv base M0 Bm nv (s.picks m (L.take k)) wr) ∧ Hid (Turns base M0 K w wr)) (fun _ i _ => L.length - (intOf i).toNat)
  case atStart => exact ⟨0, Nat.zero_le _, rfl, Lib.hid (by simpa [RS.picks] using H.out), Lib.hid (Turns.refl _ _ _ _)⟩
  case round =>
    obtain ⟨k, hk, rfl, hS, hT⟩ := hrel
    by_cases hlt : k < L.length
    · obtain ⟨b, off, rfl, _, hc0⟩ := (HP.out _ hT.out).at k hlt
      rw [← getD_at hlt] at hc0
      have hm := RS.picks_most (m := m) (L.take k) s hl
      have hcc := (RS.picks_calls (m := m) (L.take k) s).2
      rw [List.length_take] at hcc
      have hcc' : (s.picks m (L.take k)).calls ≤ 1000000000000000 := by omega
      have N := Lib.hid (s.picks_take (m := m) hlt)
      have E : Hid ((s.picks m (L.take k)).over m = true → s.picks m (L.take k) = s.picks m L) := Lib.hid (fun ho => by
        have := RS.picks_over ho (L.drop k)
        rw [← this]
        show (L.drop k).foldl _ ((L.take k).foldl _ _) = _
        rw [← List.foldl_append, List.take_append_drop]
        rfl)
      generalize L.getD k 0 = t at hc0 N
      generalize s.picks m (L.take k) = s1 at *
      clear hcc
      rcases ho : s1.over m with _ | _
      · have O := Lib.hid ho
        clear ho
        go_wp2_with fail
        refine (stand_over hS.out).mono ?_
        rintro e w' ⟨rfl, rfl⟩
        rw [O.out]
        go_wp2_with fail
        refine (stand_call S hS.out t (by omega) hcc' hmn).mono ?_
        rintro e w2 ⟨⟨x, rfl⟩, h2, t2⟩
        have KK := Lib.hid (And.intro h2 t2)
        clear h2 t2
        go_wp2
        go_roundw
        case rel => exact ⟨k + 1, by omega, by go_num, Lib.hid (by rw [N.out, RS.take_go _ O.out]; exact KK.out.1), Lib.hid (hT.out.trans KK.out.2)⟩
        case measure => simp [intOf]; omega
      · have O := Lib.hid ho
        clear ho
        go_wp2_with fail
        refine (stand_over hS.out).mono ?_
        rintro e w' ⟨rfl, rfl⟩
        rw [O.out]
        go_wp2
        ((try simp only [Exit.inBlock, Exit.then]); refine bodyPost_ret (results_none rfl _ _ _) rfl ?_)
        exact ⟨⟨_, rfl⟩, E.out O.out ▸ hS.out, hT.out⟩
    · obtain rfl : k = L.length := by omega
      go_wp2
      go_end0
      exact ⟨⟨_, rfl⟩, by simpa using hS.out, hT.out⟩

theorem Stand.form {A : Type} {m : Mach A} {K : Nat → Prop} {inv : (Nat → Prop) → A → List Value → World → Prop} (S : Sys m K inv) {base Bm : Nat} {M0 : Nat → Prop} {nv : Value} {s : RS A} {w : World} (h : Stand m inv base M0 Bm nv s w) :
    (∃ na nc, nv = .slice na m.n nc) ∧ w.cell? ⟨Bm, 0, none⟩ = some nv ∧ ∃ ma mc, w.cell? ⟨Bm, 2, none⟩ = some (.slice ma s.moves.length mc) := by
  obtain ⟨_, M, mv, vs, _, h1, h2⟩ := h
  have hn := S.len h2
  refine ⟨?_, h1.blk.at (o := 0) rfl, ?_⟩
  · rcases h1.next.2 with ⟨e, h0⟩ | ⟨g, cap, cur, e, _⟩
    · exact ⟨none, 0, by rw [e, ← hn, h0]⟩
    · exact ⟨_, _, by rw [e, hn]⟩
  · have hc := h1.blk.at (o := 2) rfl
    rcases h1.moves.2 with ⟨e, h0⟩ | ⟨g, cap, cur, e, _⟩
    · exact ⟨none, 0, by rw [hc, e, h0]⟩
    · exact ⟨_, _, by rw [hc, e]⟩

theorem stand_goRound {A : Type} {m : Mach A} {K : Nat → Prop} {inv : (Nat → Prop) → A → List Value → World → Prop} (S : Sys m K inv) {base Bm : Nat} {M0 : Nat → Prop} {nv : Value} {s : RS A} {w : World} (h : Stand m inv base M0 Bm nv s w)
    (hl : s.moves.length ≤ 65536) (hc : s.calls ≤ 100000000000000) (hmn : m.n ≤ 1000) :
    Calls Try.prog 17 #[.pointer (some ⟨Bm, 0, none⟩)] w fun e w' => (∃ x, e = .returned x) ∧ Stand m inv base M0 Bm nv (RS.rounds m 65537 s) w' ∧ Turns base M0 K w w' := by
  obtain ⟨⟨na, nc, rfl⟩, _, _⟩ := h.form S
  have H := Lib.hid h
  clear h
  go_enter Try.func17, Try.ntmps17
  go_wp2_with fail
  go_step3
  go_wp2_with fail
  go_step3
  go_wp2_with fail
  go_loopg [2, 3, 15] 65537 (fun g _ _ _ wr => ∃ (j : Nat) (s1 : RS A), g = j + 1 ∧ 65536 < j + 1 + s1.moves.length ∧ s1.moves.length ≤ 65536 ∧ s1.calls + (j + 1) * 1000 ≤ s.calls + 65537 * 1000 ∧ Hid (RS.rounds m 65537 s = RS.rounds m (j + 1) s1) ∧ Hid (Stand m inv base M0 Bm (.slice na m.n nc) s1 wr) ∧ Hid (Turns base M0 K w wr))
  case atStart => exact ⟨65536, s, rfl, by omega, hl, by omega, Lib.hid rfl, H, Lib.hid (Turns.refl _ _ _ _)⟩
  case round =>
    obtain ⟨j, s1, rfl, hg, hm, hcc, F, hS, hT⟩ := hrel
    obtain ⟨_, c0, ma, mc, c2⟩ := hS.out.form S
    go_wp2_with fail
    go_loopw [3, 15] (fun _ i wi => ∃ (k : Nat), k ≤ m.n ∧ i = .int .i64 k ∧ Hid (Stand m inv base M0 Bm (.slice na m.n nc) (s1.upto m k) wi) ∧ Hid (Turns base M0 K w wi)) (fun _ i _ => m.n - (intOf i).toNat)
    case atStart => exact ⟨0, Nat.zero_le _, rfl, hS, hT⟩
    case round =>
      clear hS hT c0 c2
      obtain ⟨k, hk, rfl, hS, hT⟩ := hrel
      have hm1 := RS.upto_most (m := m) hm k
      have hc1 := (s1.upto_calls (m := m) k).2
      by_cases hlt : k < m.n
      · rcases ho : (s1.upto m k).over m with _ | _
        · have O := Lib.hid ho
          clear ho
          go_wp2_with fail
          refine (stand_over hS.out).mono ?_
          rintro e w' ⟨rfl, rfl⟩
          rw [O.out]
          go_wp2_with fail
          refine (stand_call S hS.out k (by omega) (by omega) (by omega)).mono ?_
          rintro e w2 ⟨⟨x, rfl⟩, h2, t2⟩
          have KK := Lib.hid (And.intro h2 t2)
          clear h2 t2
          go_wp2
          go_roundw
          case rel => exact ⟨k + 1, by omega, by go_num, Lib.hid (by show Stand m inv base M0 Bm _ ((s1.upto m k).take m k) _; rw [RS.take_go _ O.out]; exact KK.out.1), Lib.hid (hT.out.trans KK.out.2)⟩
          case measure => simp [intOf]; omega
        · have O := Lib.hid ho
          clear ho
          go_wp2_with fail
          refine (stand_over hS.out).mono ?_
          rintro e w' ⟨rfl, rfl⟩
          rw [O.out]
          go_wp2
          rw [Exit.noGoto_normal]
          go_wp2
          go_end0
          exact ⟨⟨_, rfl⟩, by rw [F.out, RS.rounds_mid hk O.out]; exact hS.out, hT.out⟩
      · obtain rfl : k = m.n := by omega
        obtain ⟨_, c0, ma', mc', c2⟩ := hS.out.form S
        have hmm := s1.upto_moves (m := m) m.n
        by_cases he : (s1.upto m m.n).moves.length = s1.moves.length
        · have he1 : (((s1.upto m m.n).moves.length : Int) == (s1.moves.length : Int)) = true := by simp [he]
          have E := Lib.hid he
          clear he
          go_wp2
          rw [Exit.noGoto_normal]
          go_wp2
          go_end0
          exact ⟨⟨_, rfl⟩, by rw [F.out, RS.rounds_last j E.out]; exact hS.out, hT.out⟩
        · have he1 : (((s1.upto m m.n).moves.length : Int) == (s1.moves.length : Int)) = false := by simp; omega
          have E := Lib.hid he
          have E2 : s1.moves.length < (s1.upto m m.n).moves.length := by omega
          clear he
          go_wp2
          go_roundg j
          case measure => omega
          case rel => exact ⟨j - 1, s1.upto m m.n, by omega, by omega, hm1, by omega, Lib.hid (by rw [F.out, RS.rounds_next j E.out, show j - 1 + 1 = j by omega]), hS, hT⟩

end Go.Proofs.Ytfgkickjjeamgaa
