/- The reference's Sub. -/
import Derived.Test.YtbhfhekjcnnfeaaDoorBRefSum
import Derived.Test.YtbhfhekjcnnfeaaDoorB12
namespace Go.Proofs.YtbhfhekjcnnfeaaDoor
open Go Go.RowKit Go.Shelf

set_option maxRecDepth 100000 in
set_option maxHeartbeats 1000000 in
/-- **ref01.fit** of nil. -/
theorem rfit_nil (w : World) :
    Calls Tryd.prog 34 #[.slice none 0 0] w fun e W' => NatRes 0 e W' ∧ Below w.heap.size w W' := by
  have HB := Lib.hid ((Below.refl _ w).alloc (Nat.le_refl _) (.cells #[.slice none 0 0] 31))
  have c2 := cell_new w (.slice none 0 0) 31
  have f2 := frozen_new w (.slice none 0 0) 31
  go_enter Tryd.func34, Tryd.ntmps34
  go_wp2_with fail
  go_loop [4] (fun i => i = .int .i64 0) (fun _ => 0)
  case atStart => rfl
  case round =>
    obtain rfl := hrel
    go_wp2_with fail
    refine bodyPost_ret (v := .tuple #[.agg #[.slice none 0 0], .int .i64 0]) (by simp [results, Tryd.results34, go_sem, c2]) rfl ⟨natRes_ok (by rw [M.dig_zero]; simp) ⟨none, 0, by rw [M.dig_zero]; rfl, row_nil _⟩, HB.out⟩

theorem M.rsub_step {V P q s t A B v q' : Int} (h : V + P * (-q) = A + -B) (hv : v + 16777216 * (-q') = s - t - q) : (V + P * v) + P * 16777216 * (-q') = (A + P * s) + -(B + P * t) := by
  have e : P * v + P * 16777216 * (-q') = P * (s - t - q) := by rw [← hv, Int.mul_add, Int.mul_assoc]
  have e2 : P * (s - t - q) = P * s - P * t + P * (-q) := by rw [Int.mul_sub, Int.mul_sub, Int.mul_neg]; omega
  omega

def RSubRel (w w3 : World) (N x y : Nat) (l c i : Value) (W : World) : Prop :=
  ∃ (k : Nat) (zs : List Int) (q : Int) (a : Option Addr) (cap : Nat), l = .slice a zs.length cap ∧ c = .int .i64 q ∧ i = .int .i64 (k : Int) ∧ k ≤ N ∧ zs.length = k ∧ M.Lim zs ∧ 0 ≤ q ∧ q ≤ 1 ∧
    M.val zs + 16777216 ^ k * (-q) = M.val ((M.dig x).take k) + -M.val ((M.dig y).take k) ∧ Own W (w.heap.size + 3) (.slice a zs.length cap) zs ∧ Below w3.heap.size w3 W

end Go.Proofs.YtbhfhekjcnnfeaaDoor
