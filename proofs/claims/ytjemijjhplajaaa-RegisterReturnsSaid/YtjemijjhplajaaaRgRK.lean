/- What RegisterReturns keeps. -/
import Derived.Test.YtjemijjhplajaaaRgKit
import Derived.Test.YtjemijjhplajaaaPLawB
import Derived.Test.YtjemijjhplajaaaGOne
namespace Go.Proofs.Ytjemijjhplajaaa.RG
open Go Go.RowKit Go.Shelf
open G P
/-- The map m in its box, n's box, the registers, the dice. -/
structure RK (w : World) (a : Option Addr) (cap : Nat) (ts : List Int) (p q g : Nat) (x : Nat → Int) (a' : Option Addr) (t c' : Nat) (ys : List V) (lo hi : Int) (n cc : Nat) (L : List V) (W : World) : Prop where
  mm : Mp W p x (.slice a' t c') lo hi
  nn : ∃ y s l h, Mp W q y s l h
  om : G.Own W (w.heap.size + 1) (.slice a' t c') ys
  ol : G.Own W (w.heap.size + 1) (.slice (some ⟨g, 0, none⟩) n cc) L
  dd : ∃ k, Dice W w.heap.size a cap ts k
  bel : Below w.heap.size w W
  hp : w.heap.size < p
  hq : w.heap.size < q
  hpg : p < g
  hgq : g < q
  ne : (Value.slice a' t c').ownBlock ≠ some g
  far : ∀ b off, a = some ⟨b, off, none⟩ → 0 < ts.length → b < p
section
variable {w W W' : World} {a : Option Addr} {cap : Nat} {ts : List Int} {p q g : Nat} {x : Nat → Int} {a' : Option Addr} {t c' : Nat} {ys : List V} {lo hi : Int} {n cc : Nat} {L : List V}
theorem RK.below (h : RK w a cap ts p q g x a' t c' ys lo hi n cc L W) (hb : Below W.heap.size W W') : RK w a cap ts p q g x a' t c' ys lo hi n cc L W' :=
  ⟨h.mm.below hb, h.nn.elim fun y ⟨s, l, k, hn⟩ => ⟨y, s, l, k, hn.below hb⟩, h.om.below hb, h.ol.below hb, h.dd.elim fun k hk => ⟨k, hk.below hb⟩, h.bel.trans (hb.mono h.bel.size), h.hp, h.hq, h.hpg, h.hgq, h.ne, h.far⟩
theorem RK.drewN (h : RK w a cap ts p q g x a' t c' ys lo hi n cc L W) (m : Nat) : RK w a cap ts p q g x a' t c' ys lo hi n cc L (W.drewN m) := h.below (belowN (Below.refl _ W) m)
theorem RK.grown {k : Nat} (h : RK w a cap ts p q g x a' t c' ys lo hi n cc L W) (hd : Dice W' w.heap.size a cap ts k) (hg : W.grownBy W' (some w.heap.size)) : RK w a cap ts p q g x a' t c' ys lo hi n cc L W' :=
  ⟨h.mm.diced hg (Nat.ne_of_gt h.hp), h.nn.elim fun y ⟨s, l, k, hn⟩ => ⟨y, s, l, k, hn.diced hg (Nat.ne_of_gt h.hq)⟩, h.om.far hg (Nat.lt_succ_self _), h.ol.far hg (Nat.lt_succ_self _), ⟨k, hd⟩, below_dice h.bel hg (Nat.le_refl _) (Nat.le_refl _), h.hp, h.hq, h.hpg, h.hgq, h.ne, h.far⟩
theorem RK.setL (h : RK w a cap ts p q g x a' t c' ys lo hi n cc L W) (i : Nat) (y : V) : RK w a cap ts p q g x a' t c' ys lo hi n cc (L.set i y) (W.setCell ⟨g, i, none⟩ (.int .u64 (y.toNat : Int))) := by
  have hb : Below g W (W.setCell ⟨g, i, none⟩ (.int .u64 (y.toNat : Int))) := (Below.refl _ W).setCell (p := ⟨g, i, none⟩) (Nat.le_refl g) _
  exact ⟨h.mm.other (q := ⟨g, i, none⟩) (Nat.ne_of_gt h.hpg) _, h.nn.elim fun z ⟨s, l, k, hn⟩ => ⟨z, s, l, k, hn.other (q := ⟨g, i, none⟩) (Nat.ne_of_lt h.hgq) _⟩, h.om.other (p := ⟨g, i, none⟩) _ h.ne, h.ol.setV i y,
    h.dd.elim fun k hk => ⟨k, hk.belowAt hb (Nat.lt_trans h.hp h.hpg) (fun b off e h0 => Nat.lt_trans (h.far b off e h0) h.hpg)⟩, h.bel.setCell (p := ⟨g, i, none⟩) (Nat.le_of_lt (Nat.lt_trans h.hp h.hpg)) _, h.hp, h.hq, h.hpg, h.hgq, h.ne, h.far⟩
theorem RK.put9 (h : RK w a cap ts p q g x a' t c' ys lo hi n cc L W) (hlt : ∀ k, (Value.slice a' t c').ownBlock = some k → k < p) (y : Nat → Int) (s : Value) (l k : Int) : RK w a cap ts p q g x a' t c' ys lo hi n cc L (put9 W q y s l k) := by
  have hb : Below q W (RG.put9 W q y s l k) := put9_below (Below.refl _ W) (Nat.le_refl q) y s l k
  have hpq := Nat.lt_trans h.hpg h.hgq
  exact ⟨put9_other h.mm (Nat.ne_of_gt hpq) y s l k, h.nn.elim fun z ⟨s', l', k', hn⟩ => ⟨_, _, _, _, put9_map hn y s l k⟩, put9_own h.om (fun e => by have := hlt q e; omega) y s l k, put9_own h.ol (fun e => by cases e; exact absurd h.hgq (Nat.lt_irrefl _)) y s l k,
    h.dd.elim fun m hm => ⟨m, hm.belowAt hb h.hq (fun b off e h0 => Nat.lt_trans (h.far b off e h0) hpq)⟩, put9_below h.bel (Nat.le_of_lt h.hq) y s l k, h.hp, h.hq, h.hpg, h.hgq, h.ne, h.far⟩
theorem next_rk (r : Nat) (m : Int) (e : m = (r : Int)) (hn : 0 < r) (hn2 : r ≤ 1000000) (h : RK w a cap ts p q g x a' t c' ys lo hi n cc L W) :
    Calls Try.prog 13 #[.pointer (some ⟨w.heap.size, 0, none⟩), .int .i64 m] W fun e W' => ∃ i : Nat, i < r ∧ e = .returned (.int .i64 (i : Int)) ∧ RK w a cap ts p q g x a' t c' ys lo hi n cc L W' := by
  subst e
  obtain ⟨k, hk⟩ := h.dd
  refine (next_any W w.heap.size a cap ts k r hn hn2 hk).mono ?_
  rintro e W' ⟨i, k', hr, rfl, hd, hg⟩
  exact ⟨i, hr, rfl, h.grown hd hg⟩
end
end Go.Proofs.Ytjemijjhplajaaa.RG
