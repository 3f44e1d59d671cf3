/- Layer 7: bellmanref07.Minimal. -/
import Derived.Test.YtjkabbabhfipbaaUndone7
import Derived.Test.YtjkabbabhfipbaaMade
import Derived.Deep.Cut
namespace Go.Proofs.Ytjkabbabhfipbaa
open Go.RowKit

theorem infoBool : (Try.prog.info? 4).map (fun i => (i.zero, i.size, i.bytes)) = some (some (.bool false), 1, 1) := by kernel_rfl
theorem made_bools (n : Nat) : madeCells (Value.bool false).cells (n * 1) = (List.replicate n (Value.bool false)).toArray := by
  apply Array.ext
  · simp [madeCells]
  · intro i h1 h2
    simp [madeCells, Value.cells, Nat.mod_one]
theorem bools_one (D : List Bool) : ∀ v ∈ D.map Value.bool, v.oneCell' = true := by
  intro v hv
  obtain ⟨x, _, rfl⟩ := List.mem_map.1 hv
  rfl
/-- Which calls are done, in a row as long as they are. -/
def AllIs (w : World) (G n : Nat) (D : List Bool) : Prop := G < w.heap.size ∧ ∀ i, i < n → w.cell? ⟨G, i, none⟩ = some (.bool (doneB D i))
theorem AllIs.below {w w' : World} {G n m : Nat} {D : List Bool} (h : AllIs w G n D) (hb : Below m w w') (hm : G < m) : AllIs w' G n D :=
  ⟨Nat.lt_of_lt_of_le h.1 hb.size, fun i hi => (hb.cell (p := ⟨G, i, none⟩) hm).trans (h.2 i hi)⟩
theorem allIs_splice {w : World} {G n : Nat} {D : List Bool} (hD : D.length ≤ n) (h : w.heap[G]? = some (.cells (splice (List.replicate n (Value.bool false)) 0 (D.map Value.bool)).toArray 4 (0, 0))) : AllIs w G n D := by
  have hb : Blk 4 w G (splice (List.replicate n (Value.bool false)) 0 (D.map Value.bool)) := h
  refine ⟨hb.lt, fun i hi => hb.at ?_⟩
  have e : splice (List.replicate n (Value.bool false)) 0 (D.map Value.bool) = D.map Value.bool ++ List.replicate (n - D.length) (Value.bool false) := by simp [splice]
  rw [e]
  by_cases h1 : i < D.length
  · rw [List.getElem?_append_left (by simpa using h1), List.getElem?_map, List.getElem?_eq_getElem h1, doneB_at h1]
    rfl
  · rw [List.getElem?_append_right (by simpa using h1), doneB_out (by omega), List.length_map, List.getElem?_replicate_of_lt (by omega)]
set_option maxHeartbeats 8000000 in
set_option maxRecDepth 100000 in
theorem ref_Minimal {w : World} {v : Value} {L : List CallZ} {ad : Option Addr} {D : List Bool} {capd : Nat} (hL : CallsIn w v L) (hLl : L.length ≤ 100000) (hD : ListIn Value.bool w ad D) (hDl : D.length ≤ L.length) :
    Calls Try.prog 19 #[v, .slice ad D.length capd] w fun e w' => ∃ r, e = .returned r ∧ NumsIn w' r (refMin L D L.length) ∧ Below w.heap.size w w' := by
  obtain ⟨i0, hi, hz0, hz1, hz2⟩ := info_parts infoInt
  obtain ⟨a, c, rfl, hr⟩ := hL
  have H := Lib.hid hr
  clear hr
  have hmk := run_make_recs (P := Try.prog) Try.underlying47 infoBool L.length (by omega) (by omega)
  simp only [made_bools] at hmk
  obtain ⟨Z, hZ⟩ : ∃ Z : List Value, Z = List.replicate L.length (Value.bool false) := ⟨_, rfl⟩
  rw [← hZ] at hmk
  have HZ := Lib.hid hZ
  have hZl : Z.length = L.length := by rw [hZ]; simp
  clear hZ
  have b1 : Below w.heap.size w (w.alloc (.cells Z.toArray 4)) := (Below.refl _ _).alloc (Nat.le_refl _) _
  have hsrc := hD.below b1
  have hpos : 0 < (D.map Value.bool).length → (some ⟨w.heap.size, 0, none⟩ : Option Addr) = some ⟨w.heap.size, 0, none⟩ ∧ ∃ a', ad = some a' ∧ ∀ j v, (D.map Value.bool)[j]? = some v → (w.alloc (.cells Z.toArray 4)).cell? (a'.add j) = some v := fun h => by
    rw [List.length_map] at h
    obtain ⟨b, off, e, _, _⟩ := hsrc.at 0 h
    refine ⟨rfl, _, e, fun j v hv => ?_⟩
    rw [List.getElem?_map, Option.map_eq_some_iff] at hv
    obtain ⟨x, hx, rfl⟩ := hv
    obtain ⟨b', off', e', _, hc⟩ := hsrc j x hx
    rw [e] at e'
    cases e'
    rw [addr_add]
    exact hc
  have hg : (w.alloc (.cells Z.toArray 4)).heap[w.heap.size]? = some (.cells Z.toArray 4 (0, 0)) := Blk.new
  have hn : (D.map Value.bool).length = Nat.min D.length L.length * 1 := by rw [List.length_map]; show _ = min D.length L.length * 1; omega
  have K := Lib.hid (And.intro hpos (And.intro hg (And.intro hn b1)))
  clear hpos hg hn b1 hsrc hD
  go_enter Try.func19, Try.ntmps19
  go_wp2_with (with_reducible show wpList _ _ _ (⟨some 15, _, _, _, _, _⟩ :: _) _ _; refine wpList_copy_k rfl (.tmp 13) (.tmp 14) 47 47 rfl 4 1 (by decide) Try.underlying47 (by kernel_rfl) (some ⟨w.heap.size, 0, none⟩) ad L.length L.length D.length capd rfl rfl w.heap.size 0 Z 4 K.out.2.1 (D.map Value.bool) K.out.2.2.1 K.out.1 (by simp; omega) (bools_one D) w.heap.size w K.out.2.2.2 (Nat.le_refl _) ?_; intro w2 hw2 hb2)
  have hw2 := hw2.out
  rw [HZ.out] at hw2
  have A2 := Lib.hid (allIs_splice hDl hw2)
  have hs2 := hb2.size
  clear hw2 hmk K HZ hZl
  go_wp2
  go_loopw [6, 7] (fun o s wr => ∃ (i : Nat) (M : List Int), i ≤ L.length ∧ M.length ≤ i ∧ s = .int .i64 i ∧ Hid (refMin L D i = M) ∧ wr.ownsRow w2.heap.size 3 1 o M.length (M.map numV) ∧ Below w2.heap.size w2 wr) (fun _ s _ => L.length - (intOf s).toNat)
  case atStart => exact ⟨0, [], Nat.zero_le _, Nat.le_refl _, rfl, Lib.hid rfl, World.ownsRow_nil _ _ _ _, Below.refl _ _⟩
  case round =>
    obtain ⟨i, M, hil, hM, rfl, F, hrow, hB⟩ := hrel
    by_cases hlt : i < L.length
    · have A3 := Lib.hid (A2.out.below hB A2.out.1)
      have hwr : Below w.heap.size w wr := hb2.trans (hB.mono hb2.size)
      obtain ⟨b, off, rfl, hbw, hrgx⟩ := H.out.range hlt
      have k13 : wr.cell? ⟨b, off + i * 15 + 13, none⟩ = some (numV L[i].fr) := (hwr.cell (p := ⟨b, off + i * 15 + 13, none⟩) hbw).trans (hrgx 13 _ rfl)
      have hat := atZ_nat hlt
      have HAT := Lib.hid (show (atZ L (i : Int)).fr = L[i].fr by rw [hat])
      generalize L[i].fr = fi at k13 HAT
      have ci := A3.out.2 i hlt
      have HW := Lib.hid hwr
      clear hrgx hat hwr
      go_wp2
      go_loopw [8, 9] (fun fv kv wq => ∃ (k m : Nat), k ≤ L.length ∧ kv = .int .i64 k ∧ fv = .bool (freeTo L D i k) ∧ wq = wr.drewN m) (fun _ kv _ => L.length - (intOf kv).toNat)
      case atStart => exact ⟨0, 0, Nat.zero_le _, rfl, by rw [freeTo_zero], rfl⟩
      case round =>
        obtain ⟨k, m, hkl, rfl, rfl, rfl⟩ := hrel
        by_cases hklt : k < L.length
        · obtain ⟨b', off', e', _, hrgy⟩ := H.out.range hklt
          cases e'
          have k14 : wr.cell? ⟨b, off + k * 15 + 14, none⟩ = some (numV L[k].to) := (HW.out.cell (p := ⟨b, off + k * 15 + 14, none⟩) hbw).trans (hrgy 14 _ rfl)
          have ck := A3.out.2 k hklt
          have hsu := freeTo_succ L D i k
          rw [HAT.out, atZ_nat hklt] at hsu
          generalize L[k].to = tk at k14 hsu
          clear hrgy
          by_cases e1 : k = i
          · have e1' : ((k : Int) != (i : Int)) = false := by simp [e1]
            have S := Lib.hid (show freeTo L D i (k + 1) = freeTo L D i k by rw [hsu, show (k != i) = false by simp [e1]]; simp)
            clear hsu e1
            go_wp2
            go_quiet (fail)
            go_wp2
            go_roundw
            case rel => exact ⟨k + 1, _, by omega, by go_num, by rw [S.out], rfl⟩
            case measure => simp [intOf]; omega
          · have e1' : ((k : Int) != (i : Int)) = true := by simp; omega
            have e1n : (k != i) = true := by simp [e1]
            cases hdk : doneB D k
            · rw [hdk] at ck
              by_cases e2 : tk < fi
              · have e2' : decide (tk < fi) = true := by simpa using e2
                have S := Lib.hid (show freeTo L D i (k + 1) = false by rw [hsu, e1n, hdk, e2']; simp)
                clear hsu e1 e1n hdk e2
                go_wp2
                go_quiet (fail)
                go_wp2
                go_roundw
                case rel => exact ⟨k + 1, _, by omega, by go_num, by rw [S.out], rfl⟩
                case measure => simp [intOf]; omega
              · have e2' : decide (tk < fi) = false := by simpa using e2
                have S := Lib.hid (show freeTo L D i (k + 1) = freeTo L D i k by rw [hsu, e1n, hdk, e2']; simp)
                clear hsu e1 e1n hdk e2
                go_wp2
                go_quiet (fail)
                go_wp2
                go_roundw
                case rel => exact ⟨k + 1, _, by omega, by go_num, by rw [S.out], rfl⟩
                case measure => simp [intOf]; omega
            · rw [hdk] at ck
              have S := Lib.hid (show freeTo L D i (k + 1) = freeTo L D i k by rw [hsu, e1n, hdk]; simp)
              clear hsu e1 e1n hdk
              go_wp2
              go_quiet (fail)
              go_wp2
              go_roundw
              case rel => exact ⟨k + 1, _, by omega, by go_num, by rw [S.out], rfl⟩
              case measure => simp [intOf]; omega
        · obtain rfl : k = L.length := by omega
          have hrow2 := own_only hrow ((Only.refl (fun _ => False) wr).drewN m) (fun _ _ => id)
          have hB2 := below_draws hB m
          have hbs := hB2.size
          cases hfr : freeTo L D i L.length
          · have F2 := Lib.hid (refMin_no hfr)
            clear hfr
            go_wp2
            go_roundw
            case rel => exact ⟨i + 1, M, by omega, by omega, by go_num, Lib.hid (F2.out.trans F.out), hrow2, hB2⟩
            case measure => simp [intOf]; omega
          · have F2 := Lib.hid (refMin_yes hfr)
            clear hfr
            go_wp2_with (at_builtin; with_reducible show wpList _ _ _ (⟨some 60, _, _, _, _, _⟩ :: _) _ _; refine wpList_append_own _ rfl _ _ 51 rfl w2.heap.size 3 i0 (.int .i64 0) 1 8 Try.underlying51 hi hz0 hz1 hz2 rfl (by decide) _ _ _ rfl (hrow2.alloc _) ⟨(wr.drewN m).heap.size, 0, none⟩ 1 1 [.int .i64 (i : Int)] rfl rfl (cell_one_new _ _ _) (by simp [Value.oneCell']) (by simp only [maxLen]; omega) (by omega) (by simp at hbs ⊢; omega) ?_; intro v' w9 hown' hgrow hnil')
            go_roundw
            case rel => exact ⟨i + 1, M ++ [(i : Int)], by omega, by simp; omega, by go_num, Lib.hid (F2.out.trans (by rw [F.out])), own_snoc hown' (by simp), (hB2.alloc hbs _).grown hgrow (by simp at hbs ⊢; omega) (fun j e => own_base3 hrow j e)⟩
            case measure => simp [intOf]; omega
    · obtain rfl : i = L.length := by omega
      go_wp2
      go_ret
      exact ⟨_, rfl, by rw [F.out]; exact SliceK.of_own hrow, hb2.trans (hB.mono hb2.size)⟩

end Go.Proofs.Ytjkabbabhfipbaa
