/- Layer 14, the law: two rows that grow (texts, numbers) behind two boxes; three boxes of results. -/
import Derived.Test.YtabgedmocdjkcaaFilters14
import Derived.Test.YtabgedmocdjkcaaJoin35
namespace Go.Proofs.Ytabgedmocdjkcaa
open Go.RowKit Go.Shelf

/-- The five boxes. -/
def five (Z : Nat) (k : Nat) : Prop := Z ≤ k ∧ k < Z + 5
/-- Who owns what: five boxes, two rows. -/
def ownRw (Z : Nat) (v u : Value) (k : Nat) : Prop := five Z k ∨ v.ownBlock = some k ∨ u.ownBlock = some k
/-- Where the rows stand since W0, where they were v0, u0; bv, bu lie in the boxes. -/
structure Rw (Z : Nat) (v0 u0 : Value) (W0 : World) (bv bu v u : Value) (l : List Key) (m : List Int) (Wc : World) : Prop where
  b6 : Boxed Wc Z 22 (.slice none 0 0)
  b7 : Boxed Wc (Z + 1) 23 (.slice none 0 0)
  b8 : Boxed Wc (Z + 2) 4 (.bool false)
  b9 : Boxed Wc (Z + 3) 22 bv
  b10 : Boxed Wc (Z + 4) 23 bu
  rv : Wc.ownsRow Z 9 1 v l.length (l.map keyV)
  ru : Wc.ownsRow Z 3 1 u m.length (m.map numV)
  on : Only (ownRw Z v0 u0) W0 Wc
  fv : ∀ k, v.ownBlock = some k → v0.ownBlock = some k ∨ W0.heap.size ≤ k
  fu : ∀ k, u.ownBlock = some k → u0.ownBlock = some k ∨ W0.heap.size ≤ k
section
variable {Z : Nat} {v0 u0 bv bu v u : Value} {W0 Wc Wd : World} {l : List Key} {m : List Int}
theorem Rw.ne (h : Rw Z v0 u0 W0 bv bu v u l m Wc) {k : Nat} (hk : v.ownBlock = some k ∨ u.ownBlock = some k) : ¬ five Z k := by
  rintro ⟨h1, h2⟩
  have hz : k = Z ∨ k = Z + 1 ∨ k = Z + 2 ∨ k = Z + 3 ∨ k = Z + 4 := by omega
  rcases hk with hk | hk
  · rcases hz with e | e | e | e | e <;> subst e
    · exact box_own h.b6 h.rv hk (by decide) rfl
    · exact box_own h.b7 h.rv hk (by decide) rfl
    · exact box_own h.b8 h.rv hk (by decide) rfl
    · exact box_own h.b9 h.rv hk (by decide) rfl
    · exact box_own h.b10 h.rv hk (by decide) rfl
  · rcases hz with e | e | e | e | e <;> subst e
    · exact box_own h.b6 h.ru hk (by decide) rfl
    · exact box_own h.b7 h.ru hk (by decide) rfl
    · exact box_own h.b8 h.ru hk (by decide) rfl
    · exact box_own h.b9 h.ru hk (by decide) rfl
    · exact box_own h.b10 h.ru hk (by decide) rfl
theorem Rw.apart (h : Rw Z v0 u0 W0 bv bu v u l m Wc) {k : Nat} (h1 : v.ownBlock = some k) (h2 : u.ownBlock = some k) : False := by
  obtain ⟨c, cap, _, _, hb, _⟩ := own_heap h.rv h1
  exact blk_apart hb h.ru h2 (by decide) rfl
/-- Whatever turns but what is owned. -/
theorem Rw.turn (h : Rw Z v0 u0 W0 bv bu v u l m Wc) {S : Nat → Prop} (ho : Only S Wc Wd) (h1 : ∀ k, S k → ¬ ownRw Z v u k) (h2 : ∀ k, S k → k < W0.heap.size → ownRw Z v0 u0 k) : Rw Z v0 u0 W0 bv bu v u l m Wd where
  b6 := boxO h.b6 ho fun e => h1 _ e (.inl ⟨by omega, by omega⟩)
  b7 := boxO h.b7 ho fun e => h1 _ e (.inl ⟨by omega, by omega⟩)
  b8 := boxO h.b8 ho fun e => h1 _ e (.inl ⟨by omega, by omega⟩)
  b9 := boxO h.b9 ho fun e => h1 _ e (.inl ⟨by omega, by omega⟩)
  b10 := boxO h.b10 ho fun e => h1 _ e (.inl ⟨by omega, by omega⟩)
  rv := own_only h.rv ho fun k hk e => h1 _ e (.inr (.inl hk))
  ru := own_only h.ru ho fun k hk e => h1 _ e (.inr (.inr hk))
  on := h.on.step ho fun k hk e => h2 k e hk
  fv := h.fv
  fu := h.fu
theorem Rw.below (h : Rw Z v0 u0 W0 bv bu v u l m Wc) (hb : Below Wc.heap.size Wc Wd) : Rw Z v0 u0 W0 bv bu v u l m Wd :=
  h.turn (Only.of_below hb (fun _ => False)) (fun _ h => h.elim) (fun _ h => h.elim)
theorem Rw.newS (_ : Rw Z v0 u0 W0 bv bu v u l m Wc) (s : ByteArray) : Blk 9 (Wc.alloc (.cells #[.string s] 9)) Wc.heap.size [.string s] := Blk.new
theorem Rw.newI (_ : Rw Z v0 u0 W0 bv bu v u l m Wc) (i : Int) : Blk 3 (Wc.alloc (.cells #[.int .i64 i] 3)) Wc.heap.size [.int .i64 i] := Blk.new
theorem Rw.appL (h : Rw Z v0 u0 W0 bv bu v u l m Wc) (k : Key) {g cap H : Nat} (hr : Wd.ownsRow Z 9 1 (.slice (some ⟨g, 0, none⟩) (l.length + 1) cap) (l.length + 1) (l.map keyV ++ [.string ⟨k.toArray⟩])) (hg : Wc.grownBy Wd v.ownBlock) (hl : v.ownBlock = some g ∨ g = H) (hH : Wc.heap.size = H) :
    Rw Z v0 u0 W0 bv bu (.slice (some ⟨g, 0, none⟩) (l.length + 1) cap) u (l ++ [k]) m Wd ∧ Only (fun k => v.ownBlock = some k) Wc Wd := by
  have ho := grown_only hg
  have hn : ∀ k, five Z k → ¬ v.ownBlock = some k := fun k hk e => h.ne (.inl e) hk
  refine ⟨⟨boxO h.b6 ho (hn _ ⟨by omega, by omega⟩), boxO h.b7 ho (hn _ ⟨by omega, by omega⟩), boxO h.b8 ho (hn _ ⟨by omega, by omega⟩), boxO h.b9 ho (hn _ ⟨by omega, by omega⟩), boxO h.b10 ho (hn _ ⟨by omega, by omega⟩), ?_, own_only h.ru ho fun k hk e => h.apart e hk, ?_, ?_, h.fu⟩, ho⟩
  · rw [List.length_append, List.map_append]; exact hr
  · exact h.on.step ho fun k hk e => .inr (.inl ((h.fv k e).resolve_right (by omega)))
  · intro k hk
    have : g = k := by simpa [Value.ownBlock] using hk
    subst this
    have := h.on.size
    exact hl.elim (h.fv g) fun e => .inr (by omega)
theorem Rw.appM (h : Rw Z v0 u0 W0 bv bu v u l m Wc) (i : Int) {g cap H : Nat} (hr : Wd.ownsRow Z 3 1 (.slice (some ⟨g, 0, none⟩) (m.length + 1) cap) (m.length + 1) (m.map numV ++ [.int .i64 i])) (hg : Wc.grownBy Wd u.ownBlock) (hl : u.ownBlock = some g ∨ g = H) (hH : Wc.heap.size = H) :
    Rw Z v0 u0 W0 bv bu v (.slice (some ⟨g, 0, none⟩) (m.length + 1) cap) l (m ++ [i]) Wd := by
  have ho := grown_only hg
  have hn : ∀ k, five Z k → ¬ u.ownBlock = some k := fun k hk e => h.ne (.inr e) hk
  refine ⟨boxO h.b6 ho (hn _ ⟨by omega, by omega⟩), boxO h.b7 ho (hn _ ⟨by omega, by omega⟩), boxO h.b8 ho (hn _ ⟨by omega, by omega⟩), boxO h.b9 ho (hn _ ⟨by omega, by omega⟩), boxO h.b10 ho (hn _ ⟨by omega, by omega⟩), own_only h.rv ho fun k hk e => h.apart hk e, ?_, ?_, h.fv, ?_⟩
  · rw [List.length_append, List.map_append]; exact hr
  · exact h.on.step ho fun k hk e => .inr (.inr ((h.fu k e).resolve_right (by omega)))
  · intro k hk
    have : g = k := by simpa [Value.ownBlock] using hk
    subst this
    have := h.on.size
    exact hl.elim (h.fu g) fun e => .inr (by omega)
theorem Rw.put9 (h : Rw Z v0 u0 W0 bv bu v u l m Wc) : Rw Z v0 u0 W0 v bu v u l m (Wc.setCell ⟨Z + 3, 0, none⟩ v) := by
  have ho : Only (fun k => k = Z + 3) Wc (Wc.setCell ⟨Z + 3, 0, none⟩ v) := (Only.refl (fun k => k = Z + 3) Wc).setCell (p := ⟨Z + 3, 0, none⟩) (.inl rfl) _
  exact ⟨boxO h.b6 ho (by omega), boxO h.b7 ho (by omega), boxO h.b8 ho (by omega), h.b9.set v, boxO h.b10 ho (by omega), own_only h.rv ho fun k hk e => h.ne (.inl hk) ⟨by omega, by omega⟩, own_only h.ru ho fun k hk e => h.ne (.inr hk) ⟨by omega, by omega⟩,
    h.on.step ho fun k hk e => .inl ⟨by omega, by omega⟩, h.fv, h.fu⟩
theorem Rw.put10 (h : Rw Z v0 u0 W0 bv bu v u l m Wc) : Rw Z v0 u0 W0 bv u v u l m (Wc.setCell ⟨Z + 4, 0, none⟩ u) := by
  have ho : Only (fun k => k = Z + 4) Wc (Wc.setCell ⟨Z + 4, 0, none⟩ u) := (Only.refl (fun k => k = Z + 4) Wc).setCell (p := ⟨Z + 4, 0, none⟩) (.inl rfl) _
  exact ⟨boxO h.b6 ho (by omega), boxO h.b7 ho (by omega), boxO h.b8 ho (by omega), boxO h.b9 ho (by omega), h.b10.set u, own_only h.rv ho fun k hk e => h.ne (.inl hk) ⟨by omega, by omega⟩, own_only h.ru ho fun k hk e => h.ne (.inr hk) ⟨by omega, by omega⟩,
    h.on.step ho fun k hk e => .inl ⟨by omega, by omega⟩, h.fv, h.fu⟩
/-- A block of numbers just made is none of the texts' row. -/
theorem Rw.apartI (h : Rw Z v0 u0 W0 bv bu v u l m Wc) {B : Nat} {i : Int} (hb : Blk 3 Wc B [.int .i64 i]) : ¬ v.ownBlock = some B := fun e => blk_apart hb h.rv e (by decide) rfl
theorem Rw.grow (h : Rw Z v0 u0 W0 bv bu v u l m Wc) : Grow (ownRw Z v0 u0) (ownRw Z v u) W0 := fun k hk => by
  rcases hk with hk | hk | hk
  · exact .inl (.inl hk)
  · exact (h.fv k hk).imp (fun e => .inr (.inl e)) id
  · exact (h.fu k hk).imp (fun e => .inr (.inr e)) id
theorem Rw.wn (h : Rw Z v0 u0 W0 bv bu v u l m Wc) : Wn (ownRw Z v u) Wc := fun k hk => by
  rcases hk with ⟨h1, h2⟩ | hk | hk
  · have := h.b10.lt; omega
  · exact (own_lt h.rv hk).2
  · exact (own_lt h.ru hk).2
/-- A new beginning. -/
theorem Rw.again (h : Rw Z v0 u0 W0 v u v u l m Wc) : Rw Z v u Wc v u v u l m Wc := { h with on := Only.refl _ _, fv := fun _ h => .inl h, fu := fun _ h => .inl h }
end
theorem five_new (W : World) : ∃ W5, ((((W.alloc (.cells #[.slice none 0 0] 22)).alloc (.cells #[.slice none 0 0] 23)).alloc (.cells #[.bool false] 4)).alloc (.cells #[.slice none 0 0] 22)).alloc (.cells #[.slice none 0 0] 23) = W5 ∧
    W5.heap.size = W.heap.size + 5 ∧ Below W.heap.size W W5 ∧ Rw W.heap.size (.slice none 0 0) (.slice none 0 0) W5 (.slice none 0 0) (.slice none 0 0) (.slice none 0 0) (.slice none 0 0) [] [] W5 := by
  have hB := below_step (below_step (below_step (below_step (new_below W (.cells #[.slice none 0 0] 22)) (new_below _ (.cells #[.slice none 0 0] 23))) (new_below _ (.cells #[.bool false] 4))) (new_below _ (.cells #[.slice none 0 0] 22))) (new_below _ (.cells #[.slice none 0 0] 23))
  have b7 := Boxed.new (W.alloc (.cells #[.slice none 0 0] 22)) 23 (.slice none 0 0)
  have b8 := Boxed.new ((W.alloc (.cells #[.slice none 0 0] 22)).alloc (.cells #[.slice none 0 0] 23)) 4 (.bool false)
  have b9 := Boxed.new (((W.alloc (.cells #[.slice none 0 0] 22)).alloc (.cells #[.slice none 0 0] 23)).alloc (.cells #[.bool false] 4)) 22 (.slice none 0 0)
  have b10 := Boxed.new ((((W.alloc (.cells #[.slice none 0 0] 22)).alloc (.cells #[.slice none 0 0] 23)).alloc (.cells #[.bool false] 4)).alloc (.cells #[.slice none 0 0] 22)) 23 (.slice none 0 0)
  simp only [World.size_alloc] at b7 b8 b9 b10
  refine ⟨_, rfl, by simp, hB, ⟨((((Boxed.new _ _ _).alloc _).alloc _).alloc _).alloc _, ((b7.alloc _).alloc _).alloc _, (b8.alloc _).alloc _, b9.alloc _, b10, World.ownsRow_nil _ _ _ _, World.ownsRow_nil _ _ _ _, Only.refl _ _, fun _ h => .inl h, fun _ h => .inl h⟩⟩
end Go.Proofs.Ytabgedmocdjkcaa
