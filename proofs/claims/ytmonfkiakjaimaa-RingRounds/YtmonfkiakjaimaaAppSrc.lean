/- 'append' of whatever slice of numbers to a row of the call's own. -/
import Derived.Test.YtmonfkiakjaimaaNums
import Derived.Test.YtmonfkiakjaimaaBlk
import Derived.Laws.AppendOwnNone
import Derived.OwnWalk
namespace Go.Proofs.Ytmonfkiakjaimaa
open Go.RowKit

theorem num_one' (L : List Int) : ∀ u ∈ L.map numV, u.oneCell' = true := fun u hu => by
  obtain ⟨x, _, rfl⟩ := List.mem_map.1 hu
  rfl
theorem run_append_any (W : World) (base : Nat) (ty : TypeId) (v u : Value) (M R : List Int) (hown : W.ownsRow base 3 1 v M.length (M.map numV)) (hsrc : NumsIn W u R) (hbig : M.length + R.length ≤ 1000000) (hbase : base ≤ W.heap.size) :
    ∃ v' w', (Builtin.append_ #[22, 22] ty #[v, u]).run Try.prog W = .ok v' w' ∧ w'.ownsRow base 3 1 v' (M ++ R).length ((M ++ R).map numV) ∧ W.grownBy w' v.ownBlock := by
  obtain ⟨i0, hi, hz0, hz1, hz2⟩ := info_parts infoInt
  rcases hsrc.2 with ⟨rfl, h0⟩ | ⟨b, off, cap, rfl, _, _, hc⟩
  · obtain rfl : R = [] := List.eq_nil_of_length_eq_zero h0
    rw [List.append_nil]
    exact ⟨v, W, run_append_owned_none (P := Try.prog) (w := W) base 22 ty 3 i0 1 Try.underlying22 hi v _ _ hown, hown, ⟨rfl, rfl, rfl, Nat.le_refl _, fun _ _ _ => rfl⟩⟩
  · obtain ⟨v', w', h1, h2, h3, _⟩ := run_append_own (P := Try.prog) W base 22 ty 3 i0 (.int .i64 0) 1 8 Try.underlying22 hi hz0 hz1 hz2 rfl (by decide) v _ _ hown ⟨b, off, none⟩ R.length cap (R.map numV) (by simp) hc.get (num_one' R) (by simp only [maxLen]; omega) (by omega) hbase
    exact ⟨v', w', h1, by rw [List.length_append, List.map_append]; exact h2, h3⟩
theorem own_lower {w : World} {base lo : Nat} {e : TypeId} {size n : Nat} {v : Value} {xs : List Value} (h : w.ownsRow base e size v n xs) (hl : lo ≤ base) : w.ownsRow lo e size v n xs := by
  refine ⟨h.1, ?_⟩
  rcases h.2 with hn | ⟨g, cap, cur, hv, hg, rest⟩
  · exact .inl hn
  · exact .inr ⟨g, cap, cur, hv, Nat.le_trans hl hg, rest⟩
/-- Nothing, in a block just made. -/
theorem own_empty (w : World) : (w.alloc (.cells #[] 3)).ownsRow w.heap.size 3 1 (.slice (some ⟨w.heap.size, 0, none⟩) 0 0) ([] : List Int).length (([] : List Int).map numV) :=
  ⟨by simp, .inr ⟨w.heap.size, 0, #[], rfl, Nat.le_refl _, (by show (w.heap.push _)[w.heap.size]? = _; simp), Nat.le_refl _, by simp, by simp, by simp⟩⟩
/-- A copy: what is appended to nothing. -/
theorem run_append_copy (w : World) (ty : TypeId) (u : Value) (R : List Int) (hsrc : NumsIn w u R) (hbig : R.length ≤ 1000000) :
    ∃ v' w', (Builtin.append_ #[22, 22] ty #[.slice (some ⟨w.heap.size, 0, none⟩) 0 0, u]).run Try.prog (w.alloc (.cells #[] 3)) = .ok v' w' ∧ w'.ownsRow w.heap.size 3 1 v' R.length (R.map numV) ∧ Below w.heap.size w w' := by
  obtain ⟨v', w', h1, h2, h3⟩ := run_append_any (w.alloc (.cells #[] 3)) w.heap.size ty (.slice (some ⟨w.heap.size, 0, none⟩) 0 0) u [] R (own_empty w) (hsrc.below ((Below.refl _ _).alloc (Nat.le_refl _) _)) (by simpa using hbig) (by simp)
  refine ⟨v', w', h1, by simpa using h2, ?_⟩
  exact ((Below.refl _ _).alloc (Nat.le_refl _) _).grown h3 (by simp) (fun k hk => by simp [Value.ownBlock] at hk; omega)

theorem blk_ne10 {t t' : TypeId} {w : World} {B B' : Nat} {l l' : List Value} (h : Blk t w B l) (h' : Blk t' w B' l') (hne : t ≠ t') : B ≠ B' := by
  rintro rfl
  have h1 : w.heap[B]? = _ := h
  rw [show w.heap[B]? = _ from h'] at h1
  injection h1 with h1
  injection h1 with _ h1
  exact hne h1.symm
/-- 'append' by its run's equation, at a plain region's list. -/
theorem wpList_append_run {P : Program} {ops : Array Oper} {rest : List Oper} {o : Oper} {a : Act} {w : World} {Q : Exit → Act → World → Prop} (hgd : o.guard = none) (s x : Operand) (t : TypeId) (ho : o.op = .call { callee := .builtin .append, args := #[s, x], argTypes := #[t, t] })
    (v u v' : Value) (w' : World) (hs : a.eval s = v) (hx : a.eval x = u) (hr : (Builtin.append_ #[t, t] o.type #[v, u]).run P w = .ok v' w') (h : wpList P ops Q rest (a.put o.dst v') w') : wpList P ops Q (o :: rest) a w :=
  wpList_plain hgd fun _ hK => by
    unfold Oper.wp execOp
    simp only [ho, resolve, invoke, builtin, Sem.run_bind, Sem.run_pure, Result.andThen_ok, List.map_toArray, List.map_cons, List.map_nil, hs, hx, hr]
    exact hK _ _ h

end Go.Proofs.Ytmonfkiakjaimaa
