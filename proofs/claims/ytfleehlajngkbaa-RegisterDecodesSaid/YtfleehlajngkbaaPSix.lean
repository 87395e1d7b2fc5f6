/- Six numbers in a block of memory. -/
import Derived.Test.YtfleehlajngkbaaPIdx
import Derived.Test.YtfleehlajngkbaaGBox
namespace Go.Proofs.Ytfleehlajngkbaa.P
open Go Go.RowKit Go.Shelf
open G
theorem below_box {B : Nat} {w W' : World} {o : Obj} (h : Below (w.alloc o).heap.size (w.alloc o) W') (hB : B ≤ w.heap.size) : Below B w W' :=
  ((Below.refl _ w).alloc hB _).trans (h.mono (by simp; omega))
theorem below_box2 {B : Nat} {w W' : World} {o o2 : Obj} (h : Below ((w.alloc o).alloc o2).heap.size ((w.alloc o).alloc o2) W') (hB : B ≤ w.heap.size) : Below B w W' :=
  ((Below.refl _ w).alloc hB _).trans (below_box h (by simp; omega))
def vs6 (x : Nat → Int) : List Value := [.int .i64 (x 0), .int .i64 (x 1), .int .i64 (x 2), .int .i64 (x 3), .int .i64 (x 4), .int .i64 (x 5)]
theorem vs6_at (x : Nat → Int) (k : Nat) (hk : k < 6) : (vs6 x)[k]? = some (.int .i64 (x k)) := by
  obtain rfl | rfl | rfl | rfl | rfl | rfl : k = 0 ∨ k = 1 ∨ k = 2 ∨ k = 3 ∨ k = 4 ∨ k = 5 := by omega
  all_goals rfl
/-- Block p holds the six numbers. -/
def Six (W : World) (p : Nat) (t : TypeId) (x : Nat → Int) : Prop := Box W p t (vs6 x)
section
variable {W : World} {p : Nat} {t : TypeId} {x : Nat → Int}
theorem Six.at (h : Six W p t x) (k : Nat) (hk : k < 6) : W.cell? ⟨p, k, none⟩ = some (.int .i64 (x k)) := Box.cell h k (vs6_at x k hk)
theorem Six.all (h : Six W p t x) : W.cell? ⟨p, 0, none⟩ = some (.int .i64 (x 0)) ∧ W.cell? ⟨p, 1, none⟩ = some (.int .i64 (x 1)) ∧ W.cell? ⟨p, 2, none⟩ = some (.int .i64 (x 2)) ∧ W.cell? ⟨p, 3, none⟩ = some (.int .i64 (x 3)) ∧ W.cell? ⟨p, 4, none⟩ = some (.int .i64 (x 4)) ∧ W.cell? ⟨p, 5, none⟩ = some (.int .i64 (x 5)) :=
  ⟨h.at 0 (by decide), h.at 1 (by decide), h.at 2 (by decide), h.at 3 (by decide), h.at 4 (by decide), h.at 5 (by decide)⟩
theorem Six.new (W : World) (t : TypeId) (x : Nat → Int) : Six (W.alloc (.cells #[.int .i64 (x 0), .int .i64 (x 1), .int .i64 (x 2), .int .i64 (x 3), .int .i64 (x 4), .int .i64 (x 5)] t)) W.heap.size t x := Box.new W t (vs6 x)
theorem Six.below {W' : World} (h : Six W p t x) (hb : Below W.heap.size W W') : Six W' p t x := Box.below h hb
theorem Six.alloc (h : Six W p t x) (o : Obj) : Six (W.alloc o) p t x := Box.alloc h o
theorem Six.grown {W' : World} {row : Option Nat} (h : Six W p t x) (hg : W.grownBy W' row) (hne : some p ≠ row) : Six W' p t x := Box.grown h hg hne
theorem Six.lt (h : Six W p t x) : p < W.heap.size := Box.lt h
theorem Six.free (h : Six W p t x) (k : Nat) : W.frozen? ⟨p, k, none⟩ = false := Box.free h k
theorem Six.other (h : Six W p t x) {q : Addr} (hq : q.block ≠ p) (u : Value) : Six (W.setCell q u) p t x := Box.other h hq u
theorem Six.drewN (h : Six W p t x) (n : Nat) : Six (W.drewN n) p t x := h
end
theorem Six.setAt {W : World} {p : Nat} {t : TypeId} {x z : Nat → Int} (h : Six W p t x) (k : Nat) (hk : k < 6) (he : ∀ j, j < 6 → j ≠ k → x j = z j) : Six (W.setCell ⟨p, k, none⟩ (.int .i64 (z k))) p t z := by
  unfold Six at h ⊢
  have h1 := Box.set h k (.int .i64 (z k))
  have e : (vs6 x).set k (.int .i64 (z k)) = vs6 z := by
    have e0 := fun h => he 0 (by decide) h
    have e1 := fun h => he 1 (by decide) h
    have e2 := fun h => he 2 (by decide) h
    have e3 := fun h => he 3 (by decide) h
    have e4 := fun h => he 4 (by decide) h
    have e5 := fun h => he 5 (by decide) h
    obtain rfl | rfl | rfl | rfl | rfl | rfl : k = 0 ∨ k = 1 ∨ k = 2 ∨ k = 3 ∨ k = 4 ∨ k = 5 := by omega
    · unfold vs6; rw [e1 (by decide), e2 (by decide), e3 (by decide), e4 (by decide), e5 (by decide)]; rfl
    · unfold vs6; rw [e0 (by decide), e2 (by decide), e3 (by decide), e4 (by decide), e5 (by decide)]; rfl
    · unfold vs6; rw [e0 (by decide), e1 (by decide), e3 (by decide), e4 (by decide), e5 (by decide)]; rfl
    · unfold vs6; rw [e0 (by decide), e1 (by decide), e2 (by decide), e4 (by decide), e5 (by decide)]; rfl
    · unfold vs6; rw [e0 (by decide), e1 (by decide), e2 (by decide), e3 (by decide), e5 (by decide)]; rfl
    · unfold vs6; rw [e0 (by decide), e1 (by decide), e2 (by decide), e3 (by decide), e4 (by decide)]; rfl
  rwa [e] at h1
theorem Six.congr {W : World} {p : Nat} {t : TypeId} {x z : Nat → Int} (h : Six W p t x) (he : ∀ j, j < 6 → x j = z j) : Six W p t z := by
  unfold Six vs6 at h ⊢
  rw [← he 0 (by decide), ← he 1 (by decide), ← he 2 (by decide), ← he 3 (by decide), ← he 4 (by decide), ← he 5 (by decide)]
  exact h
attribute [irreducible] Six
end Go.Proofs.Ytfleehlajngkbaa.P
