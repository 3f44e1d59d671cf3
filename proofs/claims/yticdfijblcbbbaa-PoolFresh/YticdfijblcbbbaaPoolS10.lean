/- Layer 10 (package pool, of strings): pools in memory. -/
import Derived.Test.YticdfijblcbbbaaPoolM10
namespace Go.Proofs.Yticdfijblcbbbaa
open Go.RowKit

abbrev psV : Plc ByteArray → List Value := plcV Value.string (.string ByteArray.empty)
theorem psV_len (p : Plc ByteArray) : (psV p).length = 3 := rfl
/-- A pool at B. -/
structure PsIs (w : World) (lo B : Nat) (pv fv : Value) (x : Po ByteArray) : Prop where
  blk : Blk 65 w B [.int .i64 (x.lim : Int), pv, fv]
  row : w.ownsRow lo 69 3 pv x.M.length (x.M.flatMap psV)
  fr : w.ownsRow lo 3 1 fv x.F.length (x.F.map numV)
  fok : FOk x
  lims : x.lim ≤ 65536
  ml : x.M.length ≤ x.lim
def PsBlk (B : Nat) (pv fv : Value) (k : Nat) : Prop := k = B ∨ pv.ownBlock = some k ∨ fv.ownBlock = some k
/-- What is new of it lies above. -/
def PsNew (n B : Nat) (pv fv pv' fv' : Value) : Prop := ∀ k, PsBlk B pv' fv' k → PsBlk B pv fv k ∨ n ≤ k
section
variable {w w' : World} {lo B : Nat} {pv fv : Value} {x : Po ByteArray}
theorem PsIs.apartP (h : PsIs w lo B pv fv x) {k : Nat} (hk : pv.ownBlock = some k) : k ≠ B := fun e => blk_apart h.blk h.row hk (by decide) e.symm
theorem PsIs.apartF (h : PsIs w lo B pv fv x) {k : Nat} (hk : fv.ownBlock = some k) : k ≠ B := fun e => blk_apart h.blk h.fr hk (by decide) e.symm
theorem PsIs.apartPF (h : PsIs w lo B pv fv x) {k : Nat} (hk : pv.ownBlock = some k) (hk' : fv.ownBlock = some k) : False := by
  obtain ⟨l, _, _, _, hb, _⟩ := own_heap h.row hk
  exact blk_apart hb h.fr hk' (by decide) rfl
theorem PsIs.lt (h : PsIs w lo B pv fv x) {k : Nat} (hk : PsBlk B pv fv k) : k < w.heap.size := by
  rcases hk with rfl | hk | hk
  · exact h.blk.lt
  · exact (h.row.lt k hk).2
  · exact (h.fr.lt k hk).2
theorem PsIs.only {S : Nat → Prop} (h : PsIs w lo B pv fv x) (ho : Only S w w') (hS : ∀ k, PsBlk B pv fv k → ¬ S k) : PsIs w' lo B pv fv x :=
  ⟨h.blk.only ho (hS B (.inl rfl)), own_only h.row ho (fun k hk => hS k (.inr (.inl hk))), own_only h.fr ho (fun k hk => hS k (.inr (.inr hk))), h.fok, h.lims, h.ml⟩
theorem PsIs.below (h : PsIs w lo B pv fv x) (hb : Below w.heap.size w w') : PsIs w' lo B pv fv x := h.only (Only.of_below hb (fun _ => False)) (fun _ _ h => h)
theorem PsIs.drewN (h : PsIs w lo B pv fv x) (n : Nat) : PsIs (w.drewN n) lo B pv fv x := h.below (below_draws (Below.refl _ _) n)
/-- Where the places lie. -/
theorem PsIs.at (h : PsIs w lo B pv fv x) {i : Nat} {p : Plc ByteArray} (hp : x.M[i]? = some p) : ∃ g cap, pv = .slice (some ⟨g, 0, none⟩) x.M.length cap ∧ g < w.heap.size ∧
    w.cell? ⟨g, i * 3, none⟩ = some (bif p.tk then Value.string p.x else (.string ByteArray.empty)) ∧ w.cell? ⟨g, i * 3 + 1, none⟩ = some (.int .i64 (p.st : Int)) ∧ w.cell? ⟨g, i * 3 + 2, none⟩ = some (.bool p.tk) ∧ (∀ k, w.frozen? ⟨g, k, none⟩ = false) ∧ w.there g (i * 3) 3 := by
  have hi := (List.getElem?_eq_some_iff.1 hp).1
  have hg : ∃ g, pv.ownBlock = some g := by
    rcases h.row.2 with ⟨_, e⟩ | ⟨g, cap, cur, e, _⟩
    · omega
    · exact ⟨g, by rw [e]; rfl⟩
  obtain ⟨g, hg⟩ := hg
  obtain ⟨l, cap, e, _, hb, ht, hle⟩ := own_heap h.row hg
  have hc : ∀ (j : Nat) v, (psV p)[j]? = some v → w.cell? ⟨g, i * 3 + j, none⟩ = some v := fun j v hv => by
    have h1 := flat_at psV_len hp hv
    rw [← ht, List.getElem?_take] at h1
    split at h1
    · exact hb.at h1
    · cases h1
  exact ⟨g, cap, e, hb.lt, hc 0 _ rfl, hc 1 _ rfl, hc 2 _ rfl, hb.frozen, blk_lies hb (by omega)⟩
end

theorem ps_New (k : Int) (w : World) : Calls Try.prog 19 #[.int .i64 k] w fun e w' => e = .returned (.pointer (some ⟨w.heap.size, 0, none⟩)) ∧ PsIs w' w.heap.size w.heap.size (.slice none 0 0) (.slice none 0 0) ⟨limZ k, [], []⟩ ∧ Below w.heap.size w w' := by
  obtain ⟨m, hm⟩ : ∃ m, limZ k = m := ⟨_, rfl⟩
  rw [hm]
  have hm64 : m ≤ 65536 := by unfold limZ at hm; omega
  have F : PsIs (w.alloc (.cells #[.int .i64 (m : Int), .slice none 0 0, .slice none 0 0] 65)) w.heap.size w.heap.size (.slice none 0 0) (.slice none 0 0) ⟨m, [], []⟩ ∧ Below w.heap.size w (w.alloc (.cells #[.int .i64 (m : Int), .slice none 0 0, .slice none 0 0] 65)) :=
    ⟨⟨Blk.new (l := [.int .i64 (m : Int), .slice none 0 0, .slice none 0 0]), World.ownsRow_nil _ _ _ _, World.ownsRow_nil _ _ _ _, fun i hi => by simp at hi, hm64, by simp⟩, (Below.refl _ _).alloc (Nat.le_refl _) _⟩
  have F' := Lib.hid F
  clear F
  by_cases h0 : k < 0
  · obtain rfl : m = 0 := by unfold limZ at hm; omega
    clear hm
    go_enter Try.func19, Try.ntmps19
    go_wp2
    all_goals
      go_ret
      exact ⟨by first | rfl | simp, F'.out⟩
  · by_cases h1 : k ≤ 65536
    · obtain rfl : k = (m : Int) := by unfold limZ at hm; omega
      clear hm
      go_enter Try.func19, Try.ntmps19
      go_wp2
      all_goals
        go_ret
        exact ⟨by first | rfl | simp, F'.out⟩
    · obtain rfl : m = 65536 := by unfold limZ at hm; omega
      clear hm
      go_enter Try.func19, Try.ntmps19
      go_wp2
      all_goals
        go_ret
        exact ⟨by first | rfl | simp, F'.out⟩
section
variable {w : World} {lo B : Nat} {pv fv : Value} {x : Po ByteArray}
theorem ps_Len (h : PsIs w lo B pv fv x) : Calls Try.prog 28 #[.pointer (some ⟨B, 0, none⟩)] w fun e w' => e = .returned (.int .i64 (x.M.length : Int)) ∧ w = w' := by
  have c1 := h.blk.at (o := 1) rfl
  obtain ⟨a, c, rfl⟩ := own_form h.row
  clear h
  go_enter Try.func28, Try.ntmps28
  go_wp2
  go_ret
  simp
theorem ps_at_no (h : PsIs w lo B pv fv x) {id : Int} (hn : hasP x.M.length id = false) : Calls Try.prog 27 #[.pointer (some ⟨B, 0, none⟩), .int .i64 id] w fun e w' => e = .returned (.pointer none) ∧ w = w' := by
  have H := Lib.hid (ps_Len h)
  by_cases h0 : 1 ≤ id
  · have hd : decide ((x.M.length : Int) < id) = true := by simp [hasP, h0] at hn; simp; omega
    have h0' : ¬ id ≤ 0 := by omega
    clear hn h
    go_enter Try.func27, Try.ntmps27
    go_wp2_with (go_at_call 28; refine H.out.mono ?_; rintro e w' ⟨rfl, rfl⟩)
    go_ret
    simp
  · have h0' : id ≤ 0 := by omega
    clear hn h
    go_enter Try.func27, Try.ntmps27
    go_wp2
    go_ret
    simp
theorem ps_at (h : PsIs w lo B pv fv x) {i : Nat} {g cap : Nat} (hi : i < x.M.length) (hg : pv = .slice (some ⟨g, 0, none⟩) x.M.length cap) : Calls Try.prog 27 #[.pointer (some ⟨B, 0, none⟩), .int .i64 ((i : Int) + 1)] w fun e w' => e = .returned (.pointer (some ⟨g, i * 3, none⟩)) ∧ w = w' := by
  have H := Lib.hid (ps_Len h)
  have c1 := h.blk.at (o := 1) rfl
  have hs := h.ml
  have hs2 := h.lims
  subst hg
  generalize x.M.length = n at *
  have hi2 : (i : Int) ≤ 70000 := by omega
  have hd : decide ((n : Int) < (i : Int) + 1) = false := by simp; omega
  clear h
  go_enter Try.func27, Try.ntmps27
  go_wp2_with (go_at_call 28; refine H.out.mono ?_; rintro e w' ⟨rfl, rfl⟩)
  go_ret
  simp
end

end Go.Proofs.Yticdfijblcbbbaa
