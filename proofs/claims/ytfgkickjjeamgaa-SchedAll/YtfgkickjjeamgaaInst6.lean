/- Layer 6: an instruction as a deed of a chain. -/
import Derived.Test.YtfgkickjjeamgaaDo6
import Derived.Test.YtfgkickjjeamgaaDeeds6
namespace Go.Proofs.Ytfgkickjjeamgaa
open Go.RowKit

/-- An instruction of a thread: whose, which, what. -/
structure Ins where
  t : Nat
  i : Nat
  kind : Int
  x : Int
def insAct (s : WS) (d : Ins) : WS × Bool := s.act d.t d.i d.kind d.x
/-- The function value of it: where its boxes lie. -/
structure InsAt (K : Nat → Prop) (Bw : Nat) (d : Ins) (w : World) (p0 p1 p2 p3 b off n cap b' off' m c : Nat) : Prop where
  k0 : K p0
  k1 : K p1
  k2 : K p2
  k3 : K p3
  kb : K b
  kb' : K b'
  c0 : w.cell? ⟨p0, 0, none⟩ = some (.pointer (some ⟨Bw, 0, none⟩))
  c1 : w.cell? ⟨p1, 0, none⟩ = some (numV d.t)
  c2 : w.cell? ⟨p2, 0, none⟩ = some (numV d.i)
  c3 : w.cell? ⟨p3, 0, none⟩ = some (.slice (some ⟨b, off, none⟩) n cap)
  tn : d.t < n
  cb : w.cell? ⟨b, off + d.t, none⟩ = some (.slice (some ⟨b', off', none⟩) m c)
  im : d.i < m
  ck : w.cell? ⟨b', off' + d.i * 2, none⟩ = some (numV d.kind)
  cx : w.cell? ⟨b', off' + d.i * 2 + 1, none⟩ = some (numV d.x)
def insD (K : Nat → Prop) (Bw : Nat) (d : Ins) (v : Value) (w : World) : Prop :=
  ∃ p0 p1 p2 p3 b off n cap b' off' m c, v = fnV 18 #[.pointer (some ⟨p0, 0, none⟩), .pointer (some ⟨p1, 0, none⟩), .pointer (some ⟨p2, 0, none⟩), .pointer (some ⟨p3, 0, none⟩)] ∧ InsAt K Bw d w p0 p1 p2 p3 b off n cap b' off' m c
structure InsI (K : Nat → Prop) (Bw : Nat) (N : Nat → Prop) (s : WS) (w : World) : Prop where
  kb : ¬ K Bw
  nb : ¬ N Bw
  nlt : ∀ k, N k → k < w.heap.size
  klt : ∀ k, K k → k < w.heap.size
  ex : ∃ dv, WorldIs w 0 Bw s dv ∧ ∀ g, dv.ownBlock = some g → ¬ K g ∧ ¬ N g
theorem InsAt.frame {K : Nat → Prop} {Bw : Nat} {d : Ins} {w w' : World} {p0 p1 p2 p3 b off n cap b' off' m c : Nat} (h : InsAt K Bw d w p0 p1 p2 p3 b off n cap b' off' m c) (ho : Only (fun k => ¬ K k) w w') : InsAt K Bw d w' p0 p1 p2 p3 b off n cap b' off' m c :=
  ⟨h.k0, h.k1, h.k2, h.k3, h.kb, h.kb', only_cell h.c0 ho (fun e => e h.k0), only_cell h.c1 ho (fun e => e h.k1), only_cell h.c2 ho (fun e => e h.k2), only_cell h.c3 ho (fun e => e h.k3), h.tn, only_cell h.cb ho (fun e => e h.kb), h.im, only_cell h.ck ho (fun e => e h.kb'), only_cell h.cx ho (fun e => e h.kb')⟩

theorem ins_call {K : Nat → Prop} {Bw : Nat} {d : Ins} {w : World} {p0 p1 p2 p3 b off n cap b' off' m c : Nat} (h : InsAt K Bw d w p0 p1 p2 p3 b off n cap b' off' m c) {s : WS} {dv : Value} (hW : WorldIs w 0 Bw s dv) (hd : s.done.length ≤ 1000000) (ht : d.t ≤ 1000000) :
    Calls Try.prog 18 #[.pointer (some ⟨p0, 0, none⟩), .pointer (some ⟨p1, 0, none⟩), .pointer (some ⟨p2, 0, none⟩), .pointer (some ⟨p3, 0, none⟩)] w fun e w' => ∃ w1, DoTo 0 Bw s dv w1 e w' (insAct s d) ∧ ∃ j, w1 = w.drewN j := by
  obtain ⟨_, _, _, _, _, _, c0, c1, c2, c3, tn, cb, im, ck, cx⟩ := h
  have H := Lib.hid hW
  clear hW
  go_enter Try.func18, Try.ntmps18
  go_wp2_with fail
  go_still_tail 10, (by kernel_rfl)
  go_wp2_with fail
  refine (do_any (H.out.drewN 1) (Nat.zero_le _) hd d.t d.i d.kind d.x (by omega) (by omega) (insAct s d) rfl).mono ?_
  rintro e w' ⟨rfl, hex, ho⟩
  have E := Lib.hid (And.intro hex ho)
  clear hex ho
  go_wp2
  go_ret
  exact ⟨_, ⟨rfl, E.out.1, E.out.2⟩, 1, rfl⟩

theorem ins_deeds (K : Nat → Prop) (Bw : Nat) : Deeds K insAct (fun s d => s.done.length ≤ 1000000 ∧ d.t ≤ 1000000) (InsI K Bw) (insD K Bw) where
  frame := fun {N N' x w w'} h h1 h2 ho => by
    obtain ⟨dv, hW, hg⟩ := h.ex
    have hn : ∀ k, k < w.heap.size → ¬ N k → ¬ N' k := fun k hk hm hm' => by
      rcases h2 k hm' with h3 | h3
      · exact hm h3
      · omega
    have n1 := hn Bw hW.blk.lt h.nb
    refine ⟨h.kb, n1, fun k hk => ?_, fun k hk => Nat.lt_of_lt_of_le (h.klt k hk) ho.size, dv, hW.only ho n1 (fun g hg' => hn g (hW.done.lt g hg').2 (hg g hg').2), fun g hg' => ⟨(hg g hg').1, hn g (hW.done.lt g hg').2 (hg g hg').2⟩⟩
    rcases h2 k hk with h3 | h3
    · exact Nat.lt_of_lt_of_le (h.nlt k h3) ho.size
    · exact h3.2
  dval := fun ⟨_, _, _, _, _, _, _, _, _, _, _, _, e, _⟩ => ⟨_, _, e, fun _ _ => by kernel_rfl⟩
  dframe := fun ⟨_, _, _, _, _, _, _, _, _, _, _, _, e, h⟩ ho => ⟨_, _, _, _, _, _, _, _, _, _, _, _, e, h.frame ho⟩
  act_ := fun {N x d f c w} hok h hd => by
    obtain ⟨p0, p1, p2, p3, b, off, n, cap, b', off', m, c', e, hat⟩ := hd
    cases e
    obtain ⟨dv, hW, hg⟩ := h.ex
    refine (ins_call hat hW hok.1 hok.2).mono ?_
    rintro e w' ⟨w1, ⟨rfl, ⟨dv', hW', hg'⟩, ho⟩, j, rfl⟩
    have ho' : Only (fun k => k = Bw ∨ dv.ownBlock = some k) w w' := ((Only.refl _ w).drewN j).trans ho
    refine ⟨rfl, ho'.mono fun k _ hk => ?_, h.kb, h.nb, fun k hk => Nat.lt_of_lt_of_le (h.nlt k hk) ho'.size, fun k hk => Nat.lt_of_lt_of_le (h.klt k hk) ho'.size, dv', hW', fun g hgg => ?_⟩
    · rcases hk with rfl | hk
      · exact ⟨h.nb, h.kb⟩
      · exact ⟨(hg k hk).2, (hg k hk).1⟩
    · rcases hg' with e | e
      · exact hg g (e ▸ hgg)
      · have := e g hgg
        refine ⟨fun hk => ?_, fun hk => ?_⟩
        · have h3 := h.klt g hk; have h4 : w.heap.size ≤ g := this; omega
        · have h3 := h.nlt g hk; have h4 : w.heap.size ≤ g := this; omega

end Go.Proofs.Ytfgkickjjeamgaa
