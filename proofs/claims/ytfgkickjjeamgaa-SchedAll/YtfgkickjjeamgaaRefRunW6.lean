/- Layer 6: the document's Run (bellmanref06): the walk. -/
import Derived.Test.YtfgkickjjeamgaaRefRun6
import Derived.Deep.LoopGhost
namespace Go.Proofs.Ytfgkickjjeamgaa
open Go.RowKit

theorem made_zero (n : Nat) : (madeCells (Value.int .i64 0).cells (n * 1)).toList = (List.replicate n 0).map fun j => numV ((j : Nat) : Int) := by
  apply List.ext_getElem?
  intro i
  by_cases hi : i < n
  · simp [madeCells, Value.cells, hi, Nat.mod_one]
  · simp [madeCells, Value.cells, hi]
structure AtOk (T : List (List (Int × Int))) (at_ : List Nat) : Prop where
  len : at_.length = T.length
  le : ∀ (t : Nat) l j, T[t]? = some l → at_[t]? = some j → j ≤ l.length
theorem AtOk.inc {T : List (List (Int × Int))} {at_ : List Nat} (h : AtOk T at_) {t j : Nat} {l : List (Int × Int)} (hT : T[t]? = some l) (hj : j < l.length) : AtOk T (at_.set t (j + 1)) := by
  refine ⟨by simpa using h.len, fun u l' j' hl' hj' => ?_⟩
  by_cases e : t = u
  · subst e
    rw [hT] at hl'
    cases hl'
    rw [List.getElem?_set_self (by rw [h.len]; exact (List.getElem?_eq_some_iff.1 hT).1)] at hj'
    cases hj'
    omega
  · rw [List.getElem?_set_ne e] at hj'
    exact h.le u l' j' hl' hj'
/-- What the document's Run tells and leaves. -/
structure RefTo (w : World) (Bx n : Nat) (F : RS ISt) (e : Ending) (w' : World) : Prop where
  ex : ∃ mv dv, e = .returned (.tuple #[mv, numV F.calls, numV (F.err (insM n))]) ∧ NumsIn w' mv F.moves ∧ WorldIs w' 0 Bx F.a.1 dv ∧ (∀ g, dv.ownBlock = some g → w.heap.size ≤ g)
  only : Only (· = Bx) w w'
theorem RefM.to {w : World} {Bx Ba n : Nat} {at_ : List Nat} {mv : Value} {X : WS} {dv : Value} {wr : World} {F : RS ISt} {r : Int} (h : RefM w Bx Ba at_ mv F.moves X dv wr) (hX : F.a.1 = X) (hr : F.err (insM n) = r) : RefTo w Bx n F (.returned (.tuple #[mv, numV F.calls, numV r])) wr :=
  ⟨⟨mv, dv, by rw [hr], SliceK.of_own h.mrow, hX ▸ h.W, h.dnew⟩, h.only⟩

set_option maxRecDepth 100000 in
set_option maxHeartbeats 16000000 in
theorem ref_Run {w : World} {Bx : Nat} {a : Option Addr} {c : Nat} {T : List (List (Int × Int))} (hT : ThrIn (fun k => k < w.heap.size ∧ k ≠ Bx) w a T) {pa : Option Addr} {pc : Nat} {L : List Int} (hp : ∀ w', Only (· = Bx) w w' → ListIn numV w' pa L)
    (hW : WorldIs w 0 Bx ⟨0, 0, 0, 0, 0, []⟩ (.slice none 0 0)) (hn : T.length ≤ 8) (hl : ∀ l ∈ T, l.length ≤ 60) (hL : L.length ≤ 500) (s0 : RS ISt) (hs0 : s0 = ⟨(⟨0, 0, 0, 0, 0, []⟩, remOf T (List.replicate T.length 0)), [], 0⟩) (hB : Bnd T.length s0)
    (F : RS ISt) (hF : F = RS.rounds (insM T.length) 65537 (s0.picks (insM T.length) L)) :
    Calls Try.prog 10 #[.slice pa L.length pc, .slice a T.length c, .pointer (some ⟨Bx, 0, none⟩)] w fun e w' => RefTo w Bx T.length F e w' := by
  have hmk := run_make_recs (P := Try.prog) Try.underlying22 infoInt T.length (by omega) (by omega) w
  have MZ := Lib.hid (made_zero T.length)
  have hbx := hW.blk.lt
  obtain ⟨i0, hi, hz0, hz1, hz2⟩ := info_at infoInt
  have RM0 : Hid (RefM w Bx w.heap.size (List.replicate T.length 0) (.slice none 0 0) [] ⟨0, 0, 0, 0, 0, []⟩ (.slice none 0 0) (w.alloc (.cells (madeCells (Value.int .i64 0).cells (T.length * 1)) 3))) := Lib.hid (by
    have ho : Only (fun _ => False) w (w.alloc (.cells (madeCells (Value.int .i64 0).cells (T.length * 1)) 3)) := (Only.refl _ _).alloc _
    refine ⟨ho.mono fun _ _ h => h.elim, hbx, hW.only ho id (fun _ _ => id), fun g hg => by simp [Value.ownBlock] at hg, ?_, Nat.le_refl _, World.ownsRow_nil _ _ _ _, by simp [Value.ownBlock]⟩
    rw [← MZ.out]
    exact Blk.new (l := (madeCells (Value.int .i64 0).cells (T.length * 1)).toList))
  have AO0 : Hid (AtOk T (List.replicate T.length 0)) := Lib.hid ⟨by simp, fun t l j _ hj => by
    have := List.mem_of_getElem? hj
    simp at this
    omega⟩
  have H := Lib.hid hT
  have HP := Lib.hid hp
  have HL := Lib.hid hl
  have HS0 := Lib.hid hs0
  have HF := Lib.hid hF
  have HB := Lib.hid hB
  clear hT hp hl hs0 hF hB hW
  generalize madeCells (Value.int .i64 0).cells (T.length * 1) = Mz at *
  go_enter Try.func10, Try.ntmps10
  go_wp2_with fail
  go_loopg [10, 11, 12, 13] L.length (fun g mv cl i _ wr => ∃ (k : Nat) (at_ : List Nat) (X : WS) (dv : Value) (s : RS ISt), k + g = L.length ∧ i = .int .i64 k ∧ cl = .int .i64 s.calls ∧ s.calls ≤ k ∧ s.moves.length ≤ 1000 ∧ Hid (s = s0.picks (insM T.length) (L.take k)) ∧ Hid (s.a = (X, remOf T at_)) ∧ Hid (AtOk T at_) ∧ Hid (RefM w Bx w.heap.size at_ mv s.moves X dv wr))
  case atStart => exact ⟨0, _, _, _, s0, by omega, rfl, by rw [HS0.out]; rfl, by rw [HS0.out]; exact Nat.le_refl _, by rw [HS0.out]; exact Nat.zero_le _, Lib.hid (by simp [RS.picks]), Lib.hid (by rw [HS0.out]), AO0, by rw [HS0.out]; exact RM0⟩
  case round =>
    clear RM0 AO0
    obtain ⟨k, at_, X, dv, s, hg, rfl, rfl, hck, hml, SE, SA, AO, RM⟩ := hrel
    by_cases hlt : k < L.length
    · obtain ⟨b0, off0, rfl, _, hc0⟩ := (HP.out _ RM.out.only).at k hlt
      rw [← getD_at hlt] at hc0
      have NX : Hid (s0.picks (insM T.length) (L.take (k + 1)) = s.call (insM T.length) (L.getD k 0)) := Lib.hid (by rw [s0.picks_take hlt, ← SE.out, take_call (by omega)])
      have BN : Hid (Bnd T.length s) := Lib.hid (SE.out ▸ HB.out.picks _)
      generalize L.getD k 0 = t at *
      by_cases ht0 : t < 0
      · have ID : Hid (s.call (insM T.length) t = s) := Lib.hid (RS.call_idle (.inl ht0))
        go_wp2_with fail
        go_quiet (fail)
        have R2 := Lib.hid (RM.out.drewN nq)
        go_wp2
        go_roundg (L.length - (k + 1))
        case measure => omega
        case rel => exact ⟨k + 1, at_, X, dv, s, by omega, by go_num, rfl, by omega, hml, Lib.hid (by rw [NX.out, ID.out]), SA, AO, R2⟩
      · by_cases ht1 : (T.length : Int) ≤ t
        · have ID : Hid (s.call (insM T.length) t = s) := Lib.hid (RS.call_idle (.inr (.inl ht1)))
          have hg1 : decide (t < 0) = false := decide_eq_false (by omega)
          have hg2 : decide ((T.length : Int) ≤ t) = true := decide_eq_true (by omega)
          go_wp2_with fail
          go_quiet (fail)
          have R2 := Lib.hid (RM.out.drewN nq)
          go_wp2
          go_roundg (L.length - (k + 1))
          case measure => omega
          case rel => exact ⟨k + 1, at_, X, dv, s, by omega, by go_num, rfl, by omega, hml, Lib.hid (by rw [NX.out, ID.out]), SA, AO, R2⟩
        · obtain ⟨u, rfl⟩ : ∃ u : Nat, t = u := ⟨t.toNat, by omega⟩
          have hut : u < T.length := by omega
          clear ht0 ht1
          have hg1 : decide ((u : Int) < 0) = false := decide_eq_false (by omega)
          have hg2 : decide (T.length ≤ u) = false := decide_eq_false (by omega)
          have hTu := List.getElem?_eq_getElem hut
          have hua : u < at_.length := by rw [AO.out.len]; exact hut
          have hju := List.getElem?_eq_getElem hua
          have hjl := AO.out.le u _ _ hTu hju
          have hll := HL.out T[u] (List.getElem_mem hut)
          have TH := (H.out.only RM.out.only (fun k hk => hk.2)) u _ hTu
          obtain ⟨b, off, a', c', rfl, hQ, hcell, hins⟩ := TH
          have hat := RM.out.atb.at (o := u) (v := numV (at_[u] : Nat)) (by rw [List.getElem?_map, hju]; rfl)
          have UU := Lib.hid (And.intro hTu hju)
          generalize hjj : at_[u] = j at *
          generalize hlll : T[u] = l at *
          clear hjj hlll hTu hju
          by_cases hjlt : j < l.length
          · obtain ⟨b', off', rfl, hQ', hk1, hk2⟩ := hins j _ (List.getElem?_eq_getElem hjlt)
            have PP := Lib.hid (List.getElem?_eq_getElem hjlt)
            generalize l[j] = p at *
            have CI := Lib.hid (call_ins SA.out hut UU.out.1 UU.out.2 PP.out)
            have hdl : X.done.length ≤ 1000000 := by have h1 := BN.out.done; rw [SA.out] at h1; simp only at h1; omega
            have hg3 : decide (l.length ≤ j) = false := decide_eq_false (by omega)
            clear hins
            go_wp2_with fail
            go_quiet (fail)
            have R2 := Lib.hid (RM.out.drewN nq)
            have hat2 : (wr.drewN nq).cell? _ = _ := hat
            have hcell2 : (wr.drewN nq).cell? _ = _ := hcell
            have hk12 : (wr.drewN nq).cell? _ = _ := hk1
            have hk22 : (wr.drewN nq).cell? _ = _ := hk2
            clear RM hat hcell hk1 hk2
            generalize wr.drewN nq = wq at *
            go_wp2_with fail
            go_still_tail 16, (by kernel_rfl)
            go_wp2_with fail
            refine (do_any (R2.out.drewN 1).W (Nat.zero_le _) hdl (u : Int) (j : Int) p.1 p.2 (by omega) (by omega) (insAct X ⟨u, j, p.1, p.2⟩) rfl).mono ?_
            intro e w1 hDo
            obtain ⟨dv', R3'⟩ := (R2.out.drewN 1).did hDo
            obtain rfl := hDo.told
            have R3 := Lib.hid R3'
            clear hDo R3' R2 hat2 hcell2 hk12 hk22
            have B2 := (BN.out.call (u : Int)).sum
            rcases hb : (insAct X ⟨u, j, p.1, p.2⟩).2 with _ | _
            · have CJ : Hid (s.call (insM T.length) u = ⟨((insAct X ⟨u, j, p.1, p.2⟩).1, remOf T at_), s.moves, s.calls + 1⟩) := Lib.hid (by rw [CI.out, hb]; rfl)
              clear CI hb B2
              generalize (insAct X ⟨u, j, p.1, p.2⟩).1 = X' at *
              go_wp2
              go_roundg (L.length - (k + 1))
              case measure => omega
              case rel => exact ⟨k + 1, at_, X', dv', ⟨(X', remOf T at_), s.moves, s.calls + 1⟩, by omega, by go_num, by go_num, Nat.succ_le_succ hck, hml, Lib.hid (by rw [NX.out, CJ.out]), Lib.hid rfl, AO, R3⟩
            · have CJ : Hid (s.call (insM T.length) u = ⟨((insAct X ⟨u, j, p.1, p.2⟩).1, remOf T (at_.set u (j + 1))), s.moves ++ [(u : Int)], s.calls + 1⟩) := Lib.hid (by rw [CI.out, hb]; rfl)
              have hm1 : s.moves.length + 1 ≤ 1000 := by rw [CJ.out] at B2; simp at B2; omega
              clear CI hb B2
              generalize (insAct X ⟨u, j, p.1, p.2⟩).1 = X' at *
              have hrow := R3.out.mrow
              have hlo := R3.out.only.size
              go_wp2_with (at_builtin; refine wpList_append_lies _ rfl _ _ 22 rfl w.heap.size 3 i0 (.int .i64 0) 1 8 Try.underlying22 hi hz0 hz1 hz2 rfl (by decide) _ _ _ rfl (hrow.alloc _) ⟨w1.heap.size, 0, none⟩ 1 1 [.int .i64 (u : Int)] rfl rfl (cell_one_new _ _ _) (by simp [Value.oneCell']) (by decide) (by simp only [maxLen]; omega) (by omega) (by simp; omega) (w1.heap.size + 1) (by simp) ?_; intro g' cap' w4 hown hgrow hlie _; have R4 := Lib.hid (R3.out.push hown hgrow hlie); have hat4 := R4.out.atb.at (o := u) (v := numV (j : Nat)) (by rw [List.getElem?_map, UU.out.2]; rfl); have hfz4 := R4.out.atb.frozen u; clear hown hgrow hlie hrow R3)
              go_roundg (L.length - (k + 1))
              case measure => omega
              case rel => exact ⟨k + 1, at_.set u (j + 1), X', dv', ⟨(X', remOf T (at_.set u (j + 1))), s.moves ++ [(u : Int)], s.calls + 1⟩, by omega, by go_num, by go_num, Nat.succ_le_succ hck, by simp; omega, Lib.hid (by rw [NX.out, CJ.out]), Lib.hid rfl, Lib.hid (AO.out.inc UU.out.1 hjlt), Lib.hid (by simpa using R4.out.inc u j)⟩
          · have hg3 : decide (l.length ≤ j) = true := decide_eq_true (by omega)
            have FI := Lib.hid (call_fin (n := T.length) SA.out UU.out.1 UU.out.2 (show l.length ≤ j by omega))
            have CJ : Hid (s.call (insM T.length) u = s) := Lib.hid (RS.call_idle (.inr (.inr (by rw [Int.toNat_natCast]; exact FI.out))))
            clear hins
            go_wp2_with fail
            go_quiet (fail)
            have R2 := Lib.hid (RM.out.drewN nq)
            go_wp2
            go_roundg (L.length - (k + 1))
            case measure => omega
            case rel => exact ⟨k + 1, at_, X, dv, s, by omega, by go_num, rfl, by omega, hml, Lib.hid (by rw [NX.out, CJ.out]), SA, AO, R2⟩
    · obtain rfl : k = L.length := by omega
      rw [List.take_length] at SE
      have BN0 : Hid (Bnd T.length s) := Lib.hid (SE.out ▸ HB.out.picks _)
      have HF2 : Hid (F = RS.rounds (insM T.length) 65537 s) := Lib.hid (by rw [HF.out, SE.out])
      have hcs : s.calls ≤ 500 := by omega
      clear HF SE hck hg hlt
      generalize hps : s = sp at *
      clear hps
      go_wp2_with fail
      go_loopg [10, 11, 14, 15, 16] 65537 (fun g mv cl _ _ _ wr => ∃ (jj : Nat) (at_ : List Nat) (X : WS) (dv : Value) (s1 : RS ISt), g = jj + 1 ∧ cl = .int .i64 s1.calls ∧ s1.calls + (jj + 1) * 8 ≤ 500 + 65537 * 8 ∧ 65536 < jj + 1 + s1.moves.length ∧ s1.moves.length ≤ 1000 ∧ Hid (F = RS.rounds (insM T.length) (jj + 1) s1) ∧ Hid (Bnd T.length s1) ∧ Hid (s1.a = (X, remOf T at_)) ∧ Hid (AtOk T at_) ∧ Hid (RefM w Bx w.heap.size at_ mv s1.moves X dv wr))
      case atStart => exact ⟨65536, at_, X, dv, sp, rfl, rfl, by omega, by omega, hml, HF2, BN0, SA, AO, RM⟩
      case round =>
        clear HF2 BN0 SA AO RM hml hcs
        obtain ⟨jj, at_, X, dv, s1, rfl, rfl, hcb, hjm, hml, HF, BN1, SA, AO, RM⟩ := hrel
        go_wp2_with fail
        go_loopg [10, 11, 14, 15, 16] T.length (fun g mv cl lf sm i wi => ∃ (k : Nat) (at_ : List Nat) (X : WS) (dv : Value) (s : RS ISt) (lb sb : Bool), k + g = T.length ∧ i = .int .i64 k ∧ cl = .int .i64 s.calls ∧ s.calls ≤ s1.calls + k ∧ s.moves.length ≤ 1000 ∧ s1.moves.length ≤ s.moves.length ∧ lf = .bool lb ∧ sm = .bool sb ∧ Hid (lb = decide (0 < cntTo (insM T.length) s1.a k)) ∧ Hid (sb = decide (s1.moves.length < s.moves.length)) ∧ Hid (s = s1.upto (insM T.length) k) ∧ Hid (s.a = (X, remOf T at_)) ∧ Hid (AtOk T at_) ∧ Hid (RefM w Bx w.heap.size at_ mv s.moves X dv wi))
        case atStart => exact ⟨0, at_, X, dv, s1, false, false, by omega, rfl, rfl, by omega, hml, Nat.le_refl _, rfl, rfl, Lib.hid (by simp [cntTo]), Lib.hid (by simp), Lib.hid rfl, SA, AO, RM⟩
        case round =>
          clear SA AO RM
          obtain ⟨u, at_, X, dv, s, lb, sb, hg, rfl, rfl, hck, hml2, hmm, rfl, rfl, LB, SB, SE, SA, AO, RM⟩ := hrel
          have BN : Hid (Bnd T.length s) := Lib.hid (SE.out ▸ BN1.out.upto u)
          by_cases hut : u < T.length
          · have NX : Hid (s1.upto (insM T.length) (u + 1) = s.call (insM T.length) u) := Lib.hid (by show (s1.upto (insM T.length) u).take _ _ = _; rw [← SE.out, take_call (by omega)])
            have FC : Hid ((insM T.length).fin s1.a u = (insM T.length).fin s.a u) := Lib.hid (fin_congr (by rw [SE.out, upto_rem BN1.out u u (Nat.le_refl _)]))
            have CS := Lib.hid (cntTo_succ (insM T.length) s1.a u)
            have hTu := List.getElem?_eq_getElem hut
            have hua : u < at_.length := by rw [AO.out.len]; exact hut
            have hju := List.getElem?_eq_getElem hua
            have hjl := AO.out.le u _ _ hTu hju
            have hll := HL.out T[u] (List.getElem_mem hut)
            have TH := (H.out.only RM.out.only (fun k hk => hk.2)) u _ hTu
            obtain ⟨b, off, a', c', rfl, hQ, hcell, hins⟩ := TH
            have hat := RM.out.atb.at (o := u) (v := numV (at_[u] : Nat)) (by rw [List.getElem?_map, hju]; rfl)
            have UU := Lib.hid (And.intro hTu hju)
            generalize hjj : at_[u] = j at *
            generalize hlll : T[u] = l at *
            clear hjj hlll hTu hju
            by_cases hjlt : j < l.length
            · obtain ⟨b', off', rfl, hQ', hk1, hk2⟩ := hins j _ (List.getElem?_eq_getElem hjlt)
              have PP := Lib.hid (List.getElem?_eq_getElem hjlt)
              generalize l[j] = p at *
              have CI := Lib.hid (call_ins SA.out hut UU.out.1 UU.out.2 PP.out)
              have hdl : X.done.length ≤ 1000000 := by have h1 := BN.out.done; rw [SA.out] at h1; simp only at h1; omega
              have hg3 : decide (l.length ≤ j) = false := decide_eq_false (by omega)
              have CT : Hid (decide (0 < cntTo (insM T.length) s1.a (u + 1)) = true) := Lib.hid (by rw [CS.out, FC.out, call_nfin SA.out UU.out.1 UU.out.2 PP.out]; simp)
              clear hins
              go_wp2_with fail
              go_quiet (fail)
              have R2 := Lib.hid (RM.out.drewN nq)
              have hat2 : (wr.drewN nq).cell? _ = _ := hat
              have hcell2 : (wr.drewN nq).cell? _ = _ := hcell
              have hk12 : (wr.drewN nq).cell? _ = _ := hk1
              have hk22 : (wr.drewN nq).cell? _ = _ := hk2
              clear RM hat hcell hk1 hk2
              generalize wr.drewN nq = wq at *
              go_wp2_with fail
              go_still_tail 16, (by kernel_rfl)
              go_wp2_with fail
              refine (do_any (R2.out.drewN 1).W (Nat.zero_le _) hdl (u : Int) (j : Int) p.1 p.2 (by omega) (by omega) (insAct X ⟨u, j, p.1, p.2⟩) rfl).mono ?_
              intro e w1 hDo
              obtain ⟨dv', R3'⟩ := (R2.out.drewN 1).did hDo
              obtain rfl := hDo.told
              have R3 := Lib.hid R3'
              clear hDo R3' R2 hat2 hcell2 hk12 hk22
              have B2 := (BN.out.call (u : Int)).sum
              rcases hb : (insAct X ⟨u, j, p.1, p.2⟩).2 with _ | _
              · have CJ : Hid (s.call (insM T.length) u = ⟨((insAct X ⟨u, j, p.1, p.2⟩).1, remOf T at_), s.moves, s.calls + 1⟩) := Lib.hid (by rw [CI.out, hb]; rfl)
                clear CI hb B2
                generalize (insAct X ⟨u, j, p.1, p.2⟩).1 = X' at *
                go_wp2
                go_roundg (T.length - (u + 1))
                case measure => omega
                case rel => exact ⟨u + 1, at_, X', dv', ⟨(X', remOf T at_), s.moves, s.calls + 1⟩, true, sb, by omega, by go_num, by go_num, (show s.calls + 1 ≤ s1.calls + (u + 1) by omega), hml2, hmm, rfl, rfl, Lib.hid CT.out.symm, SB, Lib.hid (by rw [NX.out, CJ.out]), Lib.hid rfl, AO, R3⟩
              · have CJ : Hid (s.call (insM T.length) u = ⟨((insAct X ⟨u, j, p.1, p.2⟩).1, remOf T (at_.set u (j + 1))), s.moves ++ [(u : Int)], s.calls + 1⟩) := Lib.hid (by rw [CI.out, hb]; rfl)
                have hm1 : s.moves.length + 1 ≤ 1000 := by rw [CJ.out] at B2; simp at B2; omega
                clear CI hb B2
                generalize (insAct X ⟨u, j, p.1, p.2⟩).1 = X' at *
                have hrow := R3.out.mrow
                have hlo := R3.out.only.size
                go_wp2_with (at_builtin; refine wpList_append_lies _ rfl _ _ 22 rfl w.heap.size 3 i0 (.int .i64 0) 1 8 Try.underlying22 hi hz0 hz1 hz2 rfl (by decide) _ _ _ rfl (hrow.alloc _) ⟨w1.heap.size, 0, none⟩ 1 1 [.int .i64 (u : Int)] rfl rfl (cell_one_new _ _ _) (by simp [Value.oneCell']) (by decide) (by simp only [maxLen]; omega) (by omega) (by simp; omega) (w1.heap.size + 1) (by simp) ?_; intro g' cap' w4 hown hgrow hlie _; have R4 := Lib.hid (R3.out.push hown hgrow hlie); have hat4 := R4.out.atb.at (o := u) (v := numV (j : Nat)) (by rw [List.getElem?_map, UU.out.2]; rfl); have hfz4 := R4.out.atb.frozen u; clear hown hgrow hlie hrow R3)
                go_roundg (T.length - (u + 1))
                case measure => omega
                case rel => exact ⟨u + 1, at_.set u (j + 1), X', dv', ⟨(X', remOf T (at_.set u (j + 1))), s.moves ++ [(u : Int)], s.calls + 1⟩, true, true, by omega, by go_num, by go_num, (show s.calls + 1 ≤ s1.calls + (u + 1) by omega), by simp; omega, by simp; omega, rfl, rfl, Lib.hid CT.out.symm, Lib.hid (by simp; omega), Lib.hid (by rw [NX.out, CJ.out]), Lib.hid rfl, Lib.hid (AO.out.inc UU.out.1 hjlt), Lib.hid (by simpa using R4.out.inc u j)⟩
            · have hg3 : decide (l.length ≤ j) = true := decide_eq_true (by omega)
              have FI := Lib.hid (call_fin (n := T.length) SA.out UU.out.1 UU.out.2 (show l.length ≤ j by omega))
              have CJ : Hid (s.call (insM T.length) u = s) := Lib.hid (RS.call_idle (.inr (.inr (by rw [Int.toNat_natCast]; exact FI.out))))
              have CT : Hid (cntTo (insM T.length) s1.a (u + 1) = cntTo (insM T.length) s1.a u) := Lib.hid (by rw [CS.out, FC.out, FI.out]; simp)
              clear hins
              go_wp2_with fail
              go_quiet (fail)
              have R2 := Lib.hid (RM.out.drewN nq)
              go_wp2
              go_roundg (T.length - (u + 1))
              case measure => omega
              case rel => exact ⟨u + 1, at_, X, dv, s, lb, sb, by omega, by go_num, rfl, by omega, hml2, hmm, rfl, rfl, Lib.hid (by rw [CT.out]; exact LB.out), SB, Lib.hid (by rw [NX.out, CJ.out]), SA, AO, R2⟩
          · obtain rfl : u = T.length := by omega
            cases lb
            · have hz : leftN (insM T.length) s1.a = 0 := by
                have h1 : false = decide (0 < leftN (insM T.length) s1.a) := LB.out
                have h2 := of_decide_eq_false h1.symm
                omega
              have hov : s1.over (insM T.length) = true := by simp [RS.over, hz]
              have e1 : s = s1 := by rw [SE.out]; exact RS.upto_over' (m := insM T.length) (i := 0) hov (Nat.zero_le _)
              have e2 : F = s := by rw [HF.out, RS.rounds_over hov, e1]
              have e3 : F.err (insM T.length) = 0 := by unfold RS.err; rw [if_pos (by rw [e2, e1]; exact hz)]
              have FIN := Lib.hid (RefM.to (n := T.length) (F := F) (e2 ▸ RM.out) (by rw [e2, SA.out]) e3)
              rw [e2] at FIN
              have E2 := Lib.hid e2
              clear hz hov e1 e2 e3 LB SB
              go_wp2
              go_ret3
              rw [E2.out]
              exact FIN.out
            · cases sb
              · have hz : 0 < leftN (insM T.length) s1.a := of_decide_eq_true (show decide (0 < leftN (insM T.length) s1.a) = true from LB.out.symm)
                have hsm : s.moves.length = s1.moves.length := by
                  have h2 := of_decide_eq_false SB.out.symm
                  omega
                have e2 : F = s := by rw [HF.out, SE.out, RS.rounds_last jj (by show (s1.upto (insM T.length) T.length).moves.length = _; rw [← SE.out]; exact hsm)]; rfl
                have e3 : F.err (insM T.length) = 12 := by
                  unfold RS.err
                  rw [if_neg]
                  have h5 : s.a.2 = s1.a.2 := by
                    have := upto_still BN1.out T.length
                    rw [← SE.out] at this
                    exact this hsm
                  rw [e2, leftN_congr h5]
                  omega
                have FIN := Lib.hid (RefM.to (n := T.length) (F := F) (e2 ▸ RM.out) (by rw [e2, SA.out]) e3)
                rw [e2] at FIN
                have E2 := Lib.hid e2
                clear hz hsm e2 e3 LB SB
                go_wp2
                go_ret3
                rw [E2.out]
                exact FIN.out
              · have hsm : s1.moves.length < s.moves.length := of_decide_eq_true SB.out.symm
                have e2 : Hid (F = RS.rounds (insM T.length) (jj - 1 + 1) s) := Lib.hid (by
                  rw [HF.out, RS.rounds_next jj (by show (s1.upto (insM T.length) T.length).moves.length ≠ _; rw [← SE.out]; omega), show jj - 1 + 1 = jj by omega, SE.out]; rfl)
                clear LB SB
                go_wp2
                go_roundg jj
                case measure => omega
                case rel => exact ⟨jj - 1, at_, X, dv, s, by omega, rfl, by omega, by omega, hml2, e2, BN, SA, AO, RM⟩

end Go.Proofs.Ytfgkickjjeamgaa
