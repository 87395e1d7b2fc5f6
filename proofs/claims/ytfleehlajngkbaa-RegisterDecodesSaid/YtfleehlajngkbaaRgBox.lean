/- Maps in memory: a block of nine cells; the shape in its first six. -/
import Derived.Test.YtfleehlajngkbaaRgM
import Derived.Test.YtfleehlajngkbaaGBox
import Derived.Test.YtfleehlajngkbaaPSix
namespace Go.Proofs.Ytfleehlajngkbaa.RG
open Go Go.RowKit Go.Shelf
open G P
def vs9 (x : Nat → Int) (s : Value) (lo hi : Int) : List Value := [.int .i64 (x 0), .int .i64 (x 1), .int .i64 (x 2), .int .i64 (x 3), .int .i64 (x 4), .int .i64 (x 5), s, .int .i64 lo, .int .i64 hi]
/-- Block p holds the map. -/
def Mp (W : World) (p : Nat) (x : Nat → Int) (s : Value) (lo hi : Int) : Prop := Box W p 34 (vs9 x s lo hi)
section
variable {W : World} {p : Nat} {x : Nat → Int} {s : Value} {lo hi : Int}
theorem vs9_at (x : Nat → Int) (s : Value) (lo hi : Int) (k : Nat) (hk : k < 6) : (vs9 x s lo hi)[k]? = some (.int .i64 (x k)) := by
  obtain rfl | rfl | rfl | rfl | rfl | rfl : k = 0 ∨ k = 1 ∨ k = 2 ∨ k = 3 ∨ k = 4 ∨ k = 5 := by omega
  all_goals rfl
theorem Mp.at (h : Mp W p x s lo hi) (k : Nat) (hk : k < 6) : W.cell? ⟨p, k, none⟩ = some (.int .i64 (x k)) := Box.cell h k (vs9_at x s lo hi k hk)
theorem Mp.c6 (h : Mp W p x s lo hi) : W.cell? ⟨p, 6, none⟩ = some s := Box.cell h 6 rfl
theorem Mp.c7 (h : Mp W p x s lo hi) : W.cell? ⟨p, 7, none⟩ = some (.int .i64 lo) := Box.cell h 7 rfl
theorem Mp.c8 (h : Mp W p x s lo hi) : W.cell? ⟨p, 8, none⟩ = some (.int .i64 hi) := Box.cell h 8 rfl
theorem Mp.all (h : Mp W p x s lo hi) : W.cell? ⟨p, 0, none⟩ = some (.int .i64 (x 0)) ∧ W.cell? ⟨p, 1, none⟩ = some (.int .i64 (x 1)) ∧ W.cell? ⟨p, 2, none⟩ = some (.int .i64 (x 2)) ∧ W.cell? ⟨p, 3, none⟩ = some (.int .i64 (x 3)) ∧ W.cell? ⟨p, 4, none⟩ = some (.int .i64 (x 4)) ∧ W.cell? ⟨p, 5, none⟩ = some (.int .i64 (x 5)) ∧ W.cell? ⟨p, 6, none⟩ = some s ∧ W.cell? ⟨p, 7, none⟩ = some (.int .i64 lo) ∧ W.cell? ⟨p, 8, none⟩ = some (.int .i64 hi) :=
  ⟨h.at 0 (by decide), h.at 1 (by decide), h.at 2 (by decide), h.at 3 (by decide), h.at 4 (by decide), h.at 5 (by decide), h.c6, h.c7, h.c8⟩
theorem Mp.new (W : World) (x : Nat → Int) (s : Value) (lo hi : Int) : Mp (W.alloc (.cells #[.int .i64 (x 0), .int .i64 (x 1), .int .i64 (x 2), .int .i64 (x 3), .int .i64 (x 4), .int .i64 (x 5), s, .int .i64 lo, .int .i64 hi] 34)) W.heap.size x s lo hi := Box.new W _ (vs9 x s lo hi)
theorem Mp.below {W' : World} (h : Mp W p x s lo hi) (hb : Below W.heap.size W W') : Mp W' p x s lo hi := Box.below h hb
theorem Mp.belowAt {W' : World} {B : Nat} (h : Mp W p x s lo hi) (hb : Below B W W') (hp : p < B) : Mp W' p x s lo hi := Box.belowAt h hb hp
theorem Mp.alloc (h : Mp W p x s lo hi) (o : Obj) : Mp (W.alloc o) p x s lo hi := Box.alloc h o
theorem Mp.grown {W' : World} {row : Option Nat} (h : Mp W p x s lo hi) (hg : W.grownBy W' row) (hne : some p ≠ row) : Mp W' p x s lo hi := Box.grown h hg hne
theorem Mp.diced {W' : World} {dp : Nat} (h : Mp W p x s lo hi) (hg : W.grownBy W' (some dp)) (hne : p ≠ dp) : Mp W' p x s lo hi := Box.grown h hg (by intro e; cases e; exact hne rfl)
theorem Mp.lt (h : Mp W p x s lo hi) : p < W.heap.size := Box.lt h
theorem Mp.free (h : Mp W p x s lo hi) (k : Nat) : W.frozen? ⟨p, k, none⟩ = false := Box.free h k
theorem Mp.other (h : Mp W p x s lo hi) {q : Addr} (hq : q.block ≠ p) (u : Value) : Mp (W.setCell q u) p x s lo hi := Box.other h hq u
theorem Mp.drewN (h : Mp W p x s lo hi) (n : Nat) : Mp (W.drewN n) p x s lo hi := h
theorem Mp.setS (h : Mp W p x s lo hi) (u : Value) : Mp (W.setCell ⟨p, 6, none⟩ u) p x u lo hi := Box.set h 6 u
theorem Mp.setLo (h : Mp W p x s lo hi) (u : Int) : Mp (W.setCell ⟨p, 7, none⟩ (.int .i64 u)) p x s u hi := Box.set h 7 (.int .i64 u)
theorem Mp.setHi (h : Mp W p x s lo hi) (u : Int) : Mp (W.setCell ⟨p, 8, none⟩ (.int .i64 u)) p x s lo u := Box.set h 8 (.int .i64 u)
theorem Mp.congr {y : Nat → Int} (h : Mp W p x s lo hi) (he : ∀ j, j < 6 → x j = y j) : Mp W p y s lo hi := by
  unfold Mp vs9 at h ⊢
  rw [← he 0 (by decide), ← he 1 (by decide), ← he 2 (by decide), ← he 3 (by decide), ← he 4 (by decide), ← he 5 (by decide)]
  exact h
theorem Mp.frees (h : Mp W p x s lo hi) : W.frozen? ⟨p, 0, none⟩ = false ∧ W.frozen? ⟨p, 1, none⟩ = false ∧ W.frozen? ⟨p, 2, none⟩ = false ∧ W.frozen? ⟨p, 3, none⟩ = false ∧ W.frozen? ⟨p, 4, none⟩ = false ∧ W.frozen? ⟨p, 5, none⟩ = false ∧ W.frozen? ⟨p, 6, none⟩ = false ∧ W.frozen? ⟨p, 7, none⟩ = false ∧ W.frozen? ⟨p, 8, none⟩ = false :=
  ⟨h.free 0, h.free 1, h.free 2, h.free 3, h.free 4, h.free 5, h.free 6, h.free 7, h.free 8⟩
/-- One part of the shape is changed. -/
def updX (x : Nat → Int) (k : Nat) (u : Int) : Nat → Int := fun j => if j = k then u else x j
theorem Mp.setX (h : Mp W p x s lo hi) (k : Nat) (hk : k < 6) (u : Int) : Mp (W.setCell ⟨p, k, none⟩ (.int .i64 u)) p (updX x k u) s lo hi := by
  have h1 := Box.set h k (.int .i64 u)
  have e : (vs9 x s lo hi).set k (.int .i64 u) = vs9 (updX x k u) s lo hi := by
    obtain rfl | rfl | rfl | rfl | rfl | rfl : k = 0 ∨ k = 1 ∨ k = 2 ∨ k = 3 ∨ k = 4 ∨ k = 5 := by omega
    all_goals rfl
  rw [e] at h1
  exact h1
/-- The world after a store of a map. -/
def put9 (W : World) (p : Nat) (x : Nat → Int) (s : Value) (lo hi : Int) : World :=
  ((((((((W.setCell ⟨p, 0, none⟩ (.int .i64 (x 0))).setCell ⟨p, 1, none⟩ (.int .i64 (x 1))).setCell ⟨p, 2, none⟩ (.int .i64 (x 2))).setCell ⟨p, 3, none⟩ (.int .i64 (x 3))).setCell ⟨p, 4, none⟩ (.int .i64 (x 4))).setCell ⟨p, 5, none⟩ (.int .i64 (x 5))).setCell ⟨p, 6, none⟩ s).setCell ⟨p, 7, none⟩ (.int .i64 lo)).setCell ⟨p, 8, none⟩ (.int .i64 hi)
theorem put9_map {y : Nat → Int} {s' : Value} {lo' hi' : Int} (h : Mp W p y s' lo' hi') (x : Nat → Int) (s : Value) (lo hi : Int) : Mp (put9 W p x s lo hi) p x s lo hi :=
  ((((((((Box.set h 0 (.int .i64 (x 0))).set 1 (.int .i64 (x 1))).set 2 (.int .i64 (x 2))).set 3 (.int .i64 (x 3))).set 4 (.int .i64 (x 4))).set 5 (.int .i64 (x 5))).set 6 s).set 7 (.int .i64 lo)).set 8 (.int .i64 hi)
theorem put9_below {W0 : World} {B : Nat} (h : Below B W0 W) (hp : B ≤ p) (x : Nat → Int) (s : Value) (lo hi : Int) : Below B W0 (put9 W p x s lo hi) :=
  ((((((((h.setCell (p := ⟨p, 0, none⟩) hp _).setCell (p := ⟨p, 1, none⟩) hp _).setCell (p := ⟨p, 2, none⟩) hp _).setCell (p := ⟨p, 3, none⟩) hp _).setCell (p := ⟨p, 4, none⟩) hp _).setCell (p := ⟨p, 5, none⟩) hp _).setCell (p := ⟨p, 6, none⟩) hp _).setCell (p := ⟨p, 7, none⟩) hp _).setCell (p := ⟨p, 8, none⟩) hp _
/-- The box of a result. -/
theorem Mp.zero (W : World) : Mp (W.alloc (.cells #[.int .i64 0, .int .i64 0, .int .i64 0, .int .i64 0, .int .i64 0, .int .i64 0, .slice none 0 0, .int .i64 0, .int .i64 0] 34)) W.heap.size (fun _ => 0) (.slice none 0 0) 0 0 := Mp.new W (fun _ => 0) _ 0 0
end
attribute [irreducible] Mp
end Go.Proofs.Ytfleehlajngkbaa.RG
