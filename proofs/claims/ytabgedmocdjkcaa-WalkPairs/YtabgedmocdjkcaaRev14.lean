/- Layer 14: slices.Reverse over a row of spots of one's own; a spot's cells. -/
import Derived.Test.YtabgedmocdjkcaaTell14
import Derived.Test.YtabgedmocdjkcaaJoin20
namespace Go.Proofs.Ytabgedmocdjkcaa
open Go.RowKit Go.Shelf Go.Sort

instance : Inhabited Fo := ⟨.nil⟩
def spotV (x : Spo) : List Value := [.int .i64 (x.1 : Int), keyV x.2.1, .pointer (some ⟨x.2.2.1, 0, none⟩)]
theorem spotV_len (x : Spo) : (spotV x).length = 3 := rfl
theorem spotV_one (x : Spo) : ∀ v ∈ spotV x, v.oneCell' = true := fun v hv => by
  simp only [spotV, List.mem_cons, List.not_mem_nil, or_false] at hv
  rcases hv with rfl | rfl | rfl <;> rfl
theorem infoSpot : (Try.prog.info? 50).map (fun i => (i.zero, i.size, i.bytes)) = some (some (.agg #[.int .i64 0, .string ⟨#[]⟩, .pointer none]), 3, 32) := by kernel_rfl
theorem flatK_list (L : List Spo) : flatK spotV 3 L.toArray = (L.flatMap spotV).toArray := by
  refine ext_get! (by simp [flat_len spotV_len]) fun t ht => ?_
  rw [size_flatK] at ht
  have ht' : t < L.length * 3 := by simpa using ht
  rw [get_flatK _ _ _ _ ht]
  have hq : t / 3 < L.length := by omega
  have hx : L[t / 3]? = some L[t / 3] := List.getElem?_eq_getElem hq
  have hm : t % 3 < 3 := Nat.mod_lt _ (by omega)
  have hv : (spotV L[t / 3])[t % 3]? = some (spotV L[t / 3])[t % 3] := List.getElem?_eq_getElem (by rw [spotV_len]; exact hm)
  have h := flat_at spotV_len hx hv
  rw [show t / 3 * 3 + t % 3 = t by omega] at h
  have e1 : L.toArray[t / 3]! = L[t / 3] := by rw [getElem!_pos _ _ (by simpa using hq)]; simp
  rw [e1, getElem!_pos (spotV L[t / 3]) (t % 3) (by rw [spotV_len]; exact hm)]
  obtain ⟨h1, h2⟩ := List.getElem?_eq_some_iff.1 h
  rw [getElem!_pos _ t (by simpa using h1)]
  rw [List.getElem_toArray]
  exact h2.symm
set_option maxHeartbeats 1000000 in
theorem rev_spots (base : Nat) (v : Value) (L : List Spo) (w : World) (h : w.ownsRow base 50 3 v L.length (L.flatMap spotV)) (hbig : L.length ≤ 1000000) :
    Calls Try.prog 34 #[v] w fun e w' => e = .returned (.tuple #[]) ∧ w'.ownsRow base 50 3 v L.reverse.length (L.reverse.flatMap spotV) ∧ Only (fun k => v.ownBlock = some k) w w' := by
  obtain ⟨hl, ⟨rfl, h0⟩ | ⟨g, cap, cur, rfl, hg, hh, h1, h2, h3, h4⟩⟩ := h
  · obtain rfl : L = [] := List.eq_nil_of_length_eq_zero h0
    refine (AnyQ.slices_Reverse_empty Ytabgedmocdjkcaa.layRev none 0 w).mono ?_
    rintro e w' ⟨rfl, rfl⟩
    exact ⟨rfl, World.ownsRow_nil _ _ _ _, Only.refl _ _⟩
  · have hfl := flat_len spotV_len L
    have hget : ∀ j, j < L.length * 3 → cur[j]? = (L.flatMap spotV)[j]? := fun j hj => by
      rw [← h4, List.getElem?_take, if_pos hj, Array.getElem?_toList]
    have hH : HoldsK spotV 3 w g 0 L.toArray := fun j hj => by
      rw [flatK_list] at hj ⊢
      have hj' : j < (L.flatMap spotV).length := by simpa using hj
      have hc := hget j (by omega)
      rw [List.getElem?_eq_getElem hj'] at hc
      constructor
      · have : w.cell? ⟨g, 0 + j, none⟩ = cur[j]? := by simp [World.cell?, hh]
        rw [this, hc, getElem!_pos _ j hj]
        simp
      · simp [World.frozen?, hh]
    have hcall := AnyQ.slices_Reverse Ytabgedmocdjkcaa.layRev 3 Try.isAgg50 Try.sizeOf50 spotV spotV_len spotV_one g 0 cap L.toArray w hH (by simp; omega)
    rw [show L.toArray.size = L.length from rfl] at hcall
    refine hcall.mono ?_
    rintro e w' ⟨rfl, n, rfl⟩
    have hr : L.toArray.reverse = L.reverse.toArray := by simp
    rw [hr]
    obtain ⟨F, hF⟩ : ∃ F, F = (L.reverse.flatMap spotV).toArray := ⟨_, rfl⟩
    have hFs : F.size = L.length * 3 := by rw [hF]; simp [flat_len spotV_len]
    have hput : putRowK spotV 3 (Go.Sort.ahead w n) g 0 L.reverse.toArray = mapBlock (Go.Sort.ahead w n) g (putCells id 0 F) := by rw [hF, ← flatK_list]; rfl
    rw [hput]
    have hheap : (mapBlock (Go.Sort.ahead w n) g (putCells id 0 F)).heap = w.heap.modify g (onCells (putCells id 0 F)) := rfl
    have hgl : g < w.heap.size := (Array.getElem?_eq_some_iff.1 hh).1
    refine ⟨rfl, ⟨by rw [flat_len spotV_len], .inr ⟨g, cap, putCells id 0 F cur, by simp, hg, ?_, by simpa using h1, h2, ?_, ?_⟩⟩, ?_⟩
    · rw [hheap, Array.getElem?_modify, if_pos rfl, hh]; rfl
    · simp [putCells, h3]
    · apply List.ext_getElem?
      intro j
      rw [List.getElem?_take, List.length_reverse]
      by_cases hj : j < L.length * 3
      · rw [if_pos hj]
        have hjc : j < cur.size := by rw [h3]; have := Nat.mul_le_mul_right 3 h1; omega
        have : (putCells id 0 F cur)[j]? = some F[j]! := by
          simp only [putCells, Array.getElem?_mapIdx]
          rw [Array.getElem?_eq_getElem hjc, Option.map_some, if_pos ⟨Nat.zero_le _, by omega⟩]
          simp
        rw [Array.getElem?_toList, this, getElem!_pos _ j (by omega)]
        have e : F[j]? = (L.reverse.flatMap spotV)[j]? := by rw [hF]; simp
        rw [← e, Array.getElem?_eq_getElem (by omega)]
      · rw [if_neg hj, List.getElem?_eq_none]
        rw [flat_len spotV_len, List.length_reverse]; omega
    · refine ⟨rfl, rfl, rfl, by rw [hheap]; simp, fun k hk hs => ?_⟩
      rw [hheap, Array.getElem?_modify, if_neg (by rintro rfl; exact hs rfl)]
end Go.Proofs.Ytabgedmocdjkcaa
