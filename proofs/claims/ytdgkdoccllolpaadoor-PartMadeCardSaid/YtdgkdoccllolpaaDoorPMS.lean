/- PartMade: what the walk keeps. -/
import Derived.Test.YtdgkdoccllolpaaDoorPFltK
import Derived.Test.YtdgkdoccllolpaaDoorPMkF
import Derived.Test.YtdgkdoccllolpaaDoorPOddF
namespace Go.Proofs.YtdgkdoccllolpaaDoor.P
open Go Go.RowKit Go.Shelf
open G
section
attribute [local semireducible] Six
theorem Six.belowAt {W W' : World} {p B : Nat} {t : TypeId} {x : Nat → Int} (h : Six W p t x) (hb : Below B W W') (hp : p < B) : Six W' p t x := Box.belowAt h hb hp
end
section
attribute [local semireducible] Tab
theorem LKB.belowB {w W W' : World} {dp p B : Nat} {a : Option Addr} {cap : Nat} {ts : List Int} {x : Nat → Int} (h : LKB w dp a cap ts p x B W) (hw : w.heap.size ≤ B) (hb : Below B W W') : LKB w dp a cap ts p x B W' :=
  ⟨⟨h.lk.dice.elim fun k hk => ⟨k, hk.belowAt hb h.dlt h.far⟩, h.lk.shape.belowAt hb h.plt, fun k j hk hj => (hb.cell (p := ⟨0, k * 6 + j, none⟩) h.nlt).trans (h.lk.tab k j hk hj), h.lk.bel.trans (hb.mono hw), h.lk.lo, h.lk.ne, h.lk.net⟩, Nat.le_trans h.size hb.size, h.far, h.dlt, h.plt, h.nlt⟩
/-- Another number of banks. -/
theorem LKB.bank {w W : World} {dp p B : Nat} {a : Option Addr} {cap : Nat} {ts : List Int} {x : Nat → Int} (h : LKB w dp a cap ts p x B W) (hdp : dp < p) (hfar : ∀ b off, a = some ⟨b, off, none⟩ → 0 < ts.length → b < p) (hn : 0 < p) (hw : w.heap.size ≤ p) (u : Int) :
    LKB w dp a cap ts p (yv (x 0) (x 1) (x 2) u (x 4) (x 5)) B (W.setCell ⟨p, 3, none⟩ (.int .i64 u)) := by
  have hb : Below p W (W.setCell ⟨p, 3, none⟩ (.int .i64 u)) := (Below.refl _ W).setCell (p := ⟨p, 3, none⟩) (Nat.le_refl _) _
  refine ⟨⟨h.lk.dice.elim fun k hk => ⟨k, hk.belowAt hb hdp hfar⟩, h.lk.shape.setAt (z := yv (x 0) (x 1) (x 2) u (x 4) (x 5)) 3 (by decide) (fun j hj hne => ?_), fun k j hk hj => (hb.cell (p := ⟨0, k * 6 + j, none⟩) hn).trans (h.lk.tab k j hk hj), h.lk.bel.trans (hb.mono hw), h.lk.lo, h.lk.ne, h.lk.net⟩, Nat.le_trans h.size hb.size, h.far, h.dlt, h.plt, h.nlt⟩
  obtain rfl | rfl | rfl | rfl | rfl : j = 0 ∨ j = 1 ∨ j = 2 ∨ j = 4 ∨ j = 5 := by omega
  all_goals rfl
end
structure MS (w : World) (n0 n1 : Int) (dp : Nat) (a : Option Addr) (cap : Nat) (ts : List Int) (p B : Nat) (x : Nat → Int) (W : World) : Prop where
  lkb : LKB (w.alloc (.cells #[.int .i64 n0, .int .i64 n1] 27)) dp a cap ts p x B W
  two : Box W w.heap.size 27 [.int .i64 n0, .int .i64 n1]
  dpp : dp < p
  farp : ∀ b off, a = some ⟨b, off, none⟩ → 0 < ts.length → b < p
  nlp : 0 < p
  wlt : w.heap.size < p
  wdp : w.heap.size < dp
variable {w W W' : World} {n0 n1 : Int} {dp p B : Nat} {a : Option Addr} {cap : Nat} {ts : List Int} {x : Nat → Int}
theorem MS.size (h : MS w n0 n1 dp a cap ts p B x W) : (w.alloc (.cells #[.int .i64 n0, .int .i64 n1] 27)).heap.size ≤ p := by
  rw [World.size_alloc]; exact h.wlt
theorem MS.belowB (h : MS w n0 n1 dp a cap ts p B x W) (hb : Below B W W') : MS w n0 n1 dp a cap ts p B x W' :=
  ⟨h.lkb.belowB (Nat.le_trans h.size (Nat.le_of_lt h.lkb.plt)) hb, h.two.belowAt hb (Nat.lt_trans h.wlt h.lkb.plt), h.dpp, h.farp, h.nlp, h.wlt, h.wdp⟩
theorem MS.alloc (h : MS w n0 n1 dp a cap ts p B x W) (o : Obj) : MS w n0 n1 dp a cap ts p B x (W.alloc o) := h.belowB ((Below.refl _ W).alloc h.lkb.size o)
theorem MS.drew (h : MS w n0 n1 dp a cap ts p B x W) : MS w n0 n1 dp a cap ts p B x W.drew := h.belowB (Below.refl _ W).drew
theorem MS.below (h : MS w n0 n1 dp a cap ts p B x W) (hb : Below W.heap.size W W') : MS w n0 n1 dp a cap ts p B x W' := h.belowB (hb.mono h.lkb.size)
theorem MS.grown (h : MS w n0 n1 dp a cap ts p B x W) {k : Nat} (hd : Dice W' dp a cap ts k) (hg : W.grownBy W' (some dp)) : MS w n0 n1 dp a cap ts p B x W' :=
  ⟨⟨h.lkb.lk.grown hd hg, Nat.le_trans h.lkb.size hg.size, h.lkb.far, h.lkb.dlt, h.lkb.plt, h.lkb.nlt⟩, h.two.grown hg (by intro e; cases e; have := h.wdp; omega), h.dpp, h.farp, h.nlp, h.wlt, h.wdp⟩
theorem MS.bank (h : MS w n0 n1 dp a cap ts p B x W) (u : Int) : MS w n0 n1 dp a cap ts p B (yv (x 0) (x 1) (x 2) u (x 4) (x 5)) (W.setCell ⟨p, 3, none⟩ (.int .i64 u)) :=
  ⟨h.lkb.bank h.dpp h.farp h.nlp h.size u, h.two.other (q := ⟨p, 3, none⟩) (by have := h.wlt; show p ≠ _; omega) _, h.dpp, h.farp, h.nlp, h.wlt, h.wdp⟩
theorem MS.set (h : MS w n0 n1 dp a cap ts p B x W) {q : Addr} (hq : B ≤ q.block) (u : Value) : MS w n0 n1 dp a cap ts p B x (W.setCell q u) := h.belowB ((Below.refl _ W).setCell hq u)
theorem MS.put11 (h : MS w n0 n1 dp a cap ts p B x W) {q : Nat} (hq : B ≤ q) (k' : Int) (a' : Nat → Int) (c' m' v' : Int) (h' : Bool) : MS w n0 n1 dp a cap ts p B x (put11 W q k' a' c' m' v' h') :=
  ((((((((((h.set (q := ⟨q, 0, none⟩) hq _).set (q := ⟨q, 1, none⟩) hq _).set (q := ⟨q, 2, none⟩) hq _).set (q := ⟨q, 3, none⟩) hq _).set (q := ⟨q, 4, none⟩) hq _).set (q := ⟨q, 5, none⟩) hq _).set (q := ⟨q, 6, none⟩) hq _).set (q := ⟨q, 7, none⟩) hq _).set (q := ⟨q, 8, none⟩) hq _).set (q := ⟨q, 9, none⟩) hq _).set (q := ⟨q, 10, none⟩) hq _
theorem MS.dice (h : MS w n0 n1 dp a cap ts p B x W) : ∃ k, Dice W dp a cap ts k := h.lkb.lk.dice
theorem keptS_of (hg : W.grownBy W' (some dp)) : KeptS dp W W' := fun _ _ _ hq hf => hf.grown hg (by intro e; cases e; exact hq rfl)
section
attribute [local semireducible] Flt
theorem keptS_flt (h : KeptS dp W W') {q : Nat} (hq : q ≠ dp) {k : Int} {a : Nat → Int} {c m v : Int} {b : Bool} (hf : Flt W q k a c m v b) : Flt W' q k a c m v b := h _ _ _ hq hf
end
theorem one_ms (n : Nat) (N : Int) (hN : N = (n : Int)) (hn : 0 < n) (hn2 : n ≤ 1000) (h : MS w n0 n1 dp a cap ts p B x W) :
    Calls Tryd.prog 14 #[.pointer (some ⟨dp, 0, none⟩), .int .i64 N] W fun e W' => ∃ t : Bool, e = .returned (.bool t) ∧ MS w n0 n1 dp a cap ts p B x W' ∧ KeptS dp W W' := by
  subst hN
  obtain ⟨k, hk⟩ := h.dice
  exact (one_any W dp a cap ts k n hn hn2 hk).mono fun e W' ⟨t, k', he, hd, hg⟩ => ⟨t, he, h.grown hd hg, keptS_of hg⟩
theorem next_ms (n : Nat) (N : Int) (hN : N = (n : Int)) (hn : 0 < n) (hn2 : n ≤ 1000000) (h : MS w n0 n1 dp a cap ts p B x W) :
    Calls Tryd.prog 17 #[.pointer (some ⟨dp, 0, none⟩), .int .i64 N] W fun e W' => ∃ v : Nat, v < n ∧ e = .returned (.int .i64 (v : Int)) ∧ MS w n0 n1 dp a cap ts p B x W' ∧ KeptS dp W W' := by
  subst hN
  obtain ⟨k, hk⟩ := h.dice
  exact (next_any W dp a cap ts k n hn hn2 hk).mono fun e W' ⟨v, k', hv, he, hd, hg⟩ => ⟨v, hv, he, h.grown hd hg, keptS_of hg⟩
theorem place_ms (hx : okB x = true) (h : MS w n0 n1 dp a cap ts p B x W) :
    Calls Tryd.prog 16 #[.pointer (some ⟨dp, 0, none⟩), .agg #[.int .i64 (x 0), .int .i64 (x 1), .int .i64 (x 2), .int .i64 (x 3), .int .i64 (x 4), .int .i64 (x 5)]] W fun e W' => ∃ y : Nat → Int, e = .returned (.agg #[.int .i64 (y 0), .int .i64 (y 1), .int .i64 (y 2), .int .i64 (y 3), .int .i64 (y 4), .int .i64 (y 5)]) ∧ MS w n0 n1 dp a cap ts p B x W' ∧ KeptS dp W W' := by
  obtain ⟨k, hk⟩ := h.dice
  exact (place_any W dp a cap ts k x hx hk).mono fun e W' ⟨y, k', he, _, hd, hg⟩ => ⟨y, he, h.grown hd hg, keptS_of hg⟩
theorem fault_ms (hx : okB x = true) (b : Bool) (h : MS w n0 n1 dp a cap ts p B x W) :
    Calls Tryd.prog 13 #[.pointer (some ⟨dp, 0, none⟩), .agg #[.int .i64 (x 0), .int .i64 (x 1), .int .i64 (x 2), .int .i64 (x 3), .int .i64 (x 4), .int .i64 (x 5)], .int .i64 9, .bool b] W fun e W' => ∃ (kd : Int) (y : Nat → Int) (ch m v : Int) (hd : Bool), e = .returned (.agg #[.int .i64 kd, .int .i64 (y 0), .int .i64 (y 1), .int .i64 (y 2), .int .i64 (y 3), .int .i64 (y 4), .int .i64 (y 5), .int .i64 ch, .int .u8 m, .int .u8 v, .bool hd]) ∧ MS w n0 n1 dp a cap ts p B x W' ∧ KeptS dp W W' := by
  obtain ⟨k, hk⟩ := h.dice
  exact (fault_any W dp a cap ts k x b hx hk).mono fun e W' ⟨kd, y, ch, m, v, hd, he, ⟨k', hd'⟩, hg⟩ => ⟨kd, y, ch, m, v, hd, he, h.grown hd' hg, keptS_of hg⟩
theorem oddf_ms (kd : Int) (y : Nat → Int) (ch m v : Int) (hd : Bool) (h : MS w n0 n1 dp a cap ts p B x W) :
    Calls Tryd.prog 15 #[.pointer (some ⟨dp, 0, none⟩), .agg #[.int .i64 kd, .int .i64 (y 0), .int .i64 (y 1), .int .i64 (y 2), .int .i64 (y 3), .int .i64 (y 4), .int .i64 (y 5), .int .i64 ch, .int .u8 m, .int .u8 v, .bool hd]] W fun e W' => ∃ (kd : Int) (y : Nat → Int) (ch m v : Int) (hd : Bool), e = .returned (.agg #[.int .i64 kd, .int .i64 (y 0), .int .i64 (y 1), .int .i64 (y 2), .int .i64 (y 3), .int .i64 (y 4), .int .i64 (y 5), .int .i64 ch, .int .u8 m, .int .u8 v, .bool hd]) ∧ MS w n0 n1 dp a cap ts p B x W' ∧ KeptS dp W W' := by
  obtain ⟨k, hk⟩ := h.dice
  exact (oddfault_any W dp a cap ts k kd y ch m v hd hk).mono fun e W' ⟨kd, y, ch, m, v, hd, he, ⟨k', hd'⟩, hg⟩ => ⟨kd, y, ch, m, v, hd, he, h.grown hd' hg, keptS_of hg⟩
end Go.Proofs.YtdgkdoccllolpaaDoor.P
