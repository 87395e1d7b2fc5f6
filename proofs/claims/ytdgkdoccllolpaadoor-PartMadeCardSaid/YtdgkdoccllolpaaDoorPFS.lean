/- A fault being made: what the walks of Dice.Fault and Dice.OddFault keep. -/
import Derived.Test.YtdgkdoccllolpaaDoorPPlc
import Derived.Test.YtdgkdoccllolpaaDoorPCovM
import Derived.Test.YtdgkdoccllolpaaDoorGOne
namespace Go.Proofs.YtdgkdoccllolpaaDoor.P
open Go Go.RowKit Go.Shelf
open G
/-- The world after a store of a fault. -/
def put11 (W : World) (p : Nat) (k : Int) (a : Nat → Int) (c m v : Int) (h : Bool) : World :=
  ((((((((((W.setCell ⟨p, 0, none⟩ (.int .i64 k)).setCell ⟨p, 1, none⟩ (.int .i64 (a 0))).setCell ⟨p, 2, none⟩ (.int .i64 (a 1))).setCell ⟨p, 3, none⟩ (.int .i64 (a 2))).setCell ⟨p, 4, none⟩ (.int .i64 (a 3))).setCell ⟨p, 5, none⟩ (.int .i64 (a 4))).setCell ⟨p, 6, none⟩ (.int .i64 (a 5))).setCell ⟨p, 7, none⟩ (.int .i64 c)).setCell ⟨p, 8, none⟩ (.int .u8 m)).setCell ⟨p, 9, none⟩ (.int .u8 v)).setCell ⟨p, 10, none⟩ (.bool h)
section
attribute [local semireducible] Flt
variable {W W' : World} {p : Nat} {k : Int} {a : Nat → Int} {c m v : Int} {h : Bool}
theorem put11_flt (H : Flt W p k a c m v h) (k' : Int) (a' : Nat → Int) (c' m' v' : Int) (h' : Bool) : Flt (put11 W p k' a' c' m' v' h') p k' a' c' m' v' h' :=
  ((((((((((Box.set H 0 (.int .i64 k')).set 1 (.int .i64 (a' 0))).set 2 (.int .i64 (a' 1))).set 3 (.int .i64 (a' 2))).set 4 (.int .i64 (a' 3))).set 5 (.int .i64 (a' 4))).set 6 (.int .i64 (a' 5))).set 7 (.int .i64 c')).set 8 (.int .u8 m')).set 9 (.int .u8 v')).set 10 (.bool h')
theorem Flt.frees (H : Flt W p k a c m v h) : W.frozen? ⟨p, 0, none⟩ = false ∧ W.frozen? ⟨p, 1, none⟩ = false ∧ W.frozen? ⟨p, 2, none⟩ = false ∧ W.frozen? ⟨p, 3, none⟩ = false ∧ W.frozen? ⟨p, 4, none⟩ = false ∧ W.frozen? ⟨p, 5, none⟩ = false ∧ W.frozen? ⟨p, 6, none⟩ = false ∧ W.frozen? ⟨p, 7, none⟩ = false ∧ W.frozen? ⟨p, 8, none⟩ = false ∧ W.frozen? ⟨p, 9, none⟩ = false ∧ W.frozen? ⟨p, 10, none⟩ = false :=
  ⟨Box.free H 0, Box.free H 1, Box.free H 2, Box.free H 3, Box.free H 4, Box.free H 5, Box.free H 6, Box.free H 7, Box.free H 8, Box.free H 9, Box.free H 10⟩
theorem Flt.grown (H : Flt W p k a c m v h) {row : Option Nat} (hg : W.grownBy W' row) (hne : some p ≠ row) : Flt W' p k a c m v h := Box.grown H hg hne
theorem Flt.lt (H : Flt W p k a c m v h) : p < W.heap.size := Box.lt H
theorem Flt.drew (H : Flt W p k a c m v h) : Flt W.drew p k a c m v h := H
theorem Flt.other (H : Flt W p k a c m v h) {q : Addr} (hq : q.block ≠ p) (u : Value) : Flt (W.setCell q u) p k a c m v h := Box.other H hq u
theorem Flt.setKind (H : Flt W p k a c m v h) (k' : Int) : Flt (W.setCell ⟨p, 0, none⟩ (.int .i64 k')) p k' a c m v h := Box.set H 0 _
theorem Flt.setChip (H : Flt W p k a c m v h) (c' : Int) : Flt (W.setCell ⟨p, 7, none⟩ (.int .i64 c')) p k a c' m v h := Box.set H 7 _
theorem Flt.setMask (H : Flt W p k a c m v h) (m' : Int) : Flt (W.setCell ⟨p, 8, none⟩ (.int .u8 m')) p k a c m' v h := Box.set H 8 _
theorem Flt.setValue (H : Flt W p k a c m v h) (v' : Int) : Flt (W.setCell ⟨p, 9, none⟩ (.int .u8 v')) p k a c m v' h := Box.set H 9 _
theorem Flt.setHard (H : Flt W p k a c m v h) (h' : Bool) : Flt (W.setCell ⟨p, 10, none⟩ (.bool h')) p k a c m v h' := Box.set H 10 _
theorem Flt.setPl (H : Flt W p k a c m v h) (a0 a1 a2 a3 a4 a5 : Int) (e0 : a 0 = a0) (e1 : a 1 = a1) (e2 : a 2 = a2) (e3 : a 3 = a3) (e4 : a 4 = a4) (e5 : a 5 = a5) : Flt W p k (yv a0 a1 a2 a3 a4 a5) c m v h := by
  subst e0 e1 e2 e3 e4 e5; exact H
theorem Flt.setRow (H : Flt W p k a c m v h) (u : Int) : Flt (W.setCell ⟨p, 5, none⟩ (.int .i64 u)) p k (yv (a 0) (a 1) (a 2) (a 3) u (a 5)) c m v h := Box.set H 5 _
theorem Flt.setCol (H : Flt W p k a c m v h) (u : Int) : Flt (W.setCell ⟨p, 6, none⟩ (.int .i64 u)) p k (yv (a 0) (a 1) (a 2) (a 3) (a 4) u) c m v h := Box.set H 6 _
theorem Flt.setBank (H : Flt W p k a c m v h) (u : Int) : Flt (W.setCell ⟨p, 4, none⟩ (.int .i64 u)) p k (yv (a 0) (a 1) (a 2) u (a 4) (a 5)) c m v h := Box.set H 4 _
theorem Flt.setRank (H : Flt W p k a c m v h) (u : Int) : Flt (W.setCell ⟨p, 3, none⟩ (.int .i64 u)) p k (yv (a 0) (a 1) u (a 3) (a 4) (a 5)) c m v h := Box.set H 3 _
end
def z6 : Nat → Int := fun _ => 0
/-- The dice and the result's block while a fault is made. -/
structure FS (w : World) (dp : Nat) (a : Option Addr) (cap : Nat) (ts : List Int) (r : Nat) (W : World) : Prop where
  dice : ∃ k, Dice W dp a cap ts k
  grown : w.grownBy W (some dp)
  res : Flt W r 0 z6 0 0 0 false
  dlt : dp < w.heap.size
  far : ∀ b off, a = some ⟨b, off, none⟩ → 0 < ts.length → b < w.heap.size
  rlo : w.heap.size ≤ r
variable {w W W' : World} {dp r : Nat} {a : Option Addr} {cap : Nat} {ts : List Int}
theorem FS.below (h : FS w dp a cap ts r W) (hb : Below w.heap.size W W') (hr : Flt W' r 0 z6 0 0 0 false) : FS w dp a cap ts r W' :=
  ⟨h.dice.elim fun k hk => ⟨k, hk.belowAt hb h.dlt h.far⟩, grown_then h.grown hb, hr, h.dlt, h.far, h.rlo⟩
theorem FS.alloc (h : FS w dp a cap ts r W) (o : Obj) : FS w dp a cap ts r (W.alloc o) :=
  h.below ((Below.refl _ W).alloc h.grown.size _) (h.res.alloc o)
theorem FS.drew (h : FS w dp a cap ts r W) : FS w dp a cap ts r W.drew := h.below (Below.refl _ W).drew h.res.drew
theorem FS.set (h : FS w dp a cap ts r W) {q : Addr} (hq : w.heap.size ≤ q.block) (hr : q.block ≠ r) (u : Value) : FS w dp a cap ts r (W.setCell q u) :=
  h.below ((Below.refl _ W).setCell hq u) (h.res.other hr u)
theorem FS.next (h : FS w dp a cap ts r W) {k : Nat} (hd : Dice W' dp a cap ts k) (hg : W.grownBy W' (some dp)) : FS w dp a cap ts r W' :=
  ⟨⟨k, hd⟩, grown_trans h.grown hg, h.res.grown hg (by intro e; cases e; have := h.dlt; have := h.rlo; omega), h.dlt, h.far, h.rlo⟩
theorem FS.put11 (h : FS w dp a cap ts r W) {q : Nat} (hq : w.heap.size ≤ q) (hr : q ≠ r) (k' : Int) (a' : Nat → Int) (c' m' v' : Int) (h' : Bool) : FS w dp a cap ts r (put11 W q k' a' c' m' v' h') :=
  ((((((((((h.set (q := ⟨q, 0, none⟩) hq hr _).set (q := ⟨q, 1, none⟩) hq hr _).set (q := ⟨q, 2, none⟩) hq hr _).set (q := ⟨q, 3, none⟩) hq hr _).set (q := ⟨q, 4, none⟩) hq hr _).set (q := ⟨q, 5, none⟩) hq hr _).set (q := ⟨q, 6, none⟩) hq hr _).set (q := ⟨q, 7, none⟩) hq hr _).set (q := ⟨q, 8, none⟩) hq hr _).set (q := ⟨q, 9, none⟩) hq hr _).set (q := ⟨q, 10, none⟩) hq hr _
/-- The end: the result's block is written. -/
theorem FS.fin (h : FS w dp a cap ts r W) (k' : Int) (a' : Nat → Int) (c' m' v' : Int) (h' : Bool) : (∃ k, Dice (P.put11 W r k' a' c' m' v' h') dp a cap ts k) ∧ w.grownBy (P.put11 W r k' a' c' m' v' h') (some dp) := by
  have hr := h.rlo
  have hb : Below w.heap.size W (P.put11 W r k' a' c' m' v' h') :=
    (((((((((((Below.refl _ W).setCell (p := ⟨r, 0, none⟩) hr _).setCell (p := ⟨r, 1, none⟩) hr _).setCell (p := ⟨r, 2, none⟩) hr _).setCell (p := ⟨r, 3, none⟩) hr _).setCell (p := ⟨r, 4, none⟩) hr _).setCell (p := ⟨r, 5, none⟩) hr _).setCell (p := ⟨r, 6, none⟩) hr _).setCell (p := ⟨r, 7, none⟩) hr _).setCell (p := ⟨r, 8, none⟩) hr _).setCell (p := ⟨r, 9, none⟩) hr _).setCell (p := ⟨r, 10, none⟩) hr _
  exact ⟨h.dice.elim fun k hk => ⟨k, hk.belowAt hb h.dlt h.far⟩, grown_then h.grown hb⟩
/-- What a throw leaves. -/
def Kept (dp : Nat) (W W' : World) : Prop := ∀ (q : Nat) (k : Int) (a : Nat → Int) (c m v : Int) (h : Bool), q ≠ dp → Flt W q k a c m v h → Flt W' q k a c m v h
def KeptS (dp : Nat) (W W' : World) : Prop := ∀ (q : Nat) (t : TypeId) (vs : List Value), q ≠ dp → Box W q t vs → Box W' q t vs
theorem next_fs (n : Nat) (N : Int) (hN : N = (n : Int)) (hn : 0 < n) (hn2 : n ≤ 1000000) (h : FS w dp a cap ts r W) :
    Calls Tryd.prog 17 #[.pointer (some ⟨dp, 0, none⟩), .int .i64 N] W fun e W' => ∃ v : Nat, v < n ∧ e = .returned (.int .i64 (v : Int)) ∧ FS w dp a cap ts r W' ∧ Kept dp W W' ∧ KeptS dp W W' := by
  subst hN
  obtain ⟨k, hk⟩ := h.dice
  exact (next_any W dp a cap ts k n hn hn2 hk).mono fun e W' ⟨v, k', hv, he, hd, hg⟩ => ⟨v, hv, he, h.next hd hg, fun q _ _ _ _ _ _ hq hf => hf.grown hg (by intro e; cases e; exact hq rfl), fun q _ _ hq hf => hf.grown hg (by intro e; cases e; exact hq rfl)⟩
theorem one_fs (n : Nat) (N : Int) (hN : N = (n : Int)) (hn : 0 < n) (hn2 : n ≤ 1000) (h : FS w dp a cap ts r W) :
    Calls Tryd.prog 14 #[.pointer (some ⟨dp, 0, none⟩), .int .i64 N] W fun e W' => ∃ t : Bool, e = .returned (.bool t) ∧ FS w dp a cap ts r W' ∧ Kept dp W W' := by
  subst hN
  obtain ⟨k, hk⟩ := h.dice
  exact (one_any W dp a cap ts k n hn hn2 hk).mono fun e W' ⟨t, k', he, hd, hg⟩ => ⟨t, he, h.next hd hg, fun q _ _ _ _ _ _ hq hf => hf.grown hg (by intro e; cases e; exact hq rfl)⟩
theorem place_fs {x : Nat → Int} (hx : okB x = true) (h : FS w dp a cap ts r W) :
    Calls Tryd.prog 16 #[.pointer (some ⟨dp, 0, none⟩), .agg #[.int .i64 (x 0), .int .i64 (x 1), .int .i64 (x 2), .int .i64 (x 3), .int .i64 (x 4), .int .i64 (x 5)]] W fun e W' => ∃ y : Nat → Int, e = .returned (.agg #[.int .i64 (y 0), .int .i64 (y 1), .int .i64 (y 2), .int .i64 (y 3), .int .i64 (y 4), .int .i64 (y 5)]) ∧ FS w dp a cap ts r W' ∧ Kept dp W W' ∧ KeptS dp W W' := by
  obtain ⟨k, hk⟩ := h.dice
  exact (place_any W dp a cap ts k x hx hk).mono fun e W' ⟨y, k', he, _, hd, hg⟩ => ⟨y, he, h.next hd hg, fun q _ _ _ _ _ _ hq hf => hf.grown hg (by intro e; cases e; exact hq rfl), fun q _ _ hq hf => hf.grown hg (by intro e; cases e; exact hq rfl)⟩
end Go.Proofs.YtdgkdoccllolpaaDoor.P
