/- What a fault covers: mathematics; a fault in a block of memory. -/
import Derived.Test.YtdgkdoccllolpaaDoorPTab
import Derived.Test.YtdgkdoccllolpaaDoorPMath
namespace Go.Proofs.YtdgkdoccllolpaaDoor.P
open Go Go.RowKit Go.Shelf
open G
/-- The first n named numbers are the same. -/
def Cov (k : Int) (a b : Nat → Int) (n : Nat) : Prop := ∀ j, j < n → nmB k j = true → a j = b j
instance (k : Int) (a b : Nat → Int) (n : Nat) : Decidable (Cov k a b n) := by unfold Cov; infer_instance
theorem Cov.zero (k : Int) (a b : Nat → Int) : Cov k a b 0 := fun j hj => absurd hj (Nat.not_lt_zero j)
theorem Cov.succ {k : Int} {a b : Nat → Int} {n : Nat} (h : Cov k a b n) (h1 : nmB k n = false ∨ a n = b n) : Cov k a b (n + 1) := fun j hj hn => by
  by_cases e : j = n
  · subst e
    rcases h1 with h1 | h1
    · rw [h1] at hn; cases hn
    · exact h1
  · exact h j (by omega) hn
def covB (k : Int) (a b : Nat → Int) : Bool := knB k && decide (Cov k a b 6)
theorem cov_bad {k : Int} {a b : Nat → Int} (h : knB k = false) : covB k a b = false := by unfold covB; rw [h]; rfl
theorem cov_no {k : Int} {a b : Nat → Int} {j : Nat} (hj : j < 6) (hn : nmB k j = true) (h : ¬ a j = b j) : covB k a b = false := by
  unfold covB
  rw [decide_eq_false (fun h1 => h (h1 j hj hn)), Bool.and_false]
theorem cov_yes {k : Int} {a b : Nat → Int} (hk : knB k = true) (h : Cov k a b 6) : covB k a b = true := by
  unfold covB
  rw [hk, decide_eq_true h]; rfl
theorem kn_range {k : Int} (h : knB k = true) : ∃ n : Nat, k = (n : Int) ∧ 1 ≤ n ∧ n ≤ 6 := by
  unfold knB at h
  rw [decide_eq_true_iff] at h
  exact ⟨k.toNat, by omega, by omega, by omega⟩
theorem kn_eq (k : Int) : decide (1 ≤ k ∧ k ≤ 6) = knB k := by unfold knB; rfl
/-- Only named numbers are not 0. -/
def Only (k : Int) (a : Nat → Int) (n : Nat) : Prop := ∀ j, j < n → nmB k j = false → a j = 0
instance (k : Int) (a : Nat → Int) (n : Nat) : Decidable (Only k a n) := by unfold Only; infer_instance
def onlyB (k : Int) (a : Nat → Int) : Bool := decide (Only k a 6)
theorem Only.zero (k : Int) (a : Nat → Int) : Only k a 0 := fun j hj => absurd hj (Nat.not_lt_zero j)
theorem Only.succ {k : Int} {a : Nat → Int} {n : Nat} (h : Only k a n) (h1 : nmB k n = true ∨ a n = 0) : Only k a (n + 1) := fun j hj hn => by
  by_cases e : j = n
  · subst e
    rcases h1 with h1 | h1
    · rw [h1] at hn; cases hn
    · exact h1
  · exact h j (by omega) hn
theorem only_no {k : Int} {a : Nat → Int} {j : Nat} (hj : j < 6) (hn : nmB k j = false) (h : ¬ a j = 0) : onlyB k a = false := by
  unfold onlyB
  rw [decide_eq_false_iff_not]
  exact fun h1 => h (h1 j hj hn)
theorem only_yes {k : Int} {a : Nat → Int} (h : Only k a 6) : onlyB k a = true := by
  unfold onlyB
  rw [decide_eq_true_iff]
  exact h
/-- A fault in block p. -/
def vsF (k : Int) (a : Nat → Int) (c m v : Int) (h : Bool) : List Value :=
  [.int .i64 k, .int .i64 (a 0), .int .i64 (a 1), .int .i64 (a 2), .int .i64 (a 3), .int .i64 (a 4), .int .i64 (a 5), .int .i64 c, .int .u8 m, .int .u8 v, .bool h]
def Flt (W : World) (p : Nat) (k : Int) (a : Nat → Int) (c m v : Int) (h : Bool) : Prop := Box W p 26 (vsF k a c m v h)
section
variable {W : World} {p : Nat} {k : Int} {a : Nat → Int} {c m v : Int} {h : Bool}
theorem Flt.all (H : Flt W p k a c m v h) : W.cell? ⟨p, 0, none⟩ = some (.int .i64 k) ∧ W.cell? ⟨p, 1, none⟩ = some (.int .i64 (a 0)) ∧ W.cell? ⟨p, 2, none⟩ = some (.int .i64 (a 1)) ∧ W.cell? ⟨p, 3, none⟩ = some (.int .i64 (a 2)) ∧ W.cell? ⟨p, 4, none⟩ = some (.int .i64 (a 3)) ∧ W.cell? ⟨p, 5, none⟩ = some (.int .i64 (a 4)) ∧ W.cell? ⟨p, 6, none⟩ = some (.int .i64 (a 5)) ∧
    W.cell? ⟨p, 7, none⟩ = some (.int .i64 c) ∧ W.cell? ⟨p, 8, none⟩ = some (.int .u8 m) ∧ W.cell? ⟨p, 9, none⟩ = some (.int .u8 v) ∧ W.cell? ⟨p, 10, none⟩ = some (.bool h) :=
  ⟨Box.cell H 0 rfl, Box.cell H 1 rfl, Box.cell H 2 rfl, Box.cell H 3 rfl, Box.cell H 4 rfl, Box.cell H 5 rfl, Box.cell H 6 rfl, Box.cell H 7 rfl, Box.cell H 8 rfl, Box.cell H 9 rfl, Box.cell H 10 rfl⟩
theorem Flt.kind (H : Flt W p k a c m v h) : W.cell? ⟨p, 0, none⟩ = some (.int .i64 k) := Box.cell H 0 rfl
theorem Flt.place (H : Flt W p k a c m v h) (j : Nat) (hj : j < 6) : W.cell? ⟨p, j + 1, none⟩ = some (.int .i64 (a j)) := by
  obtain rfl | rfl | rfl | rfl | rfl | rfl : j = 0 ∨ j = 1 ∨ j = 2 ∨ j = 3 ∨ j = 4 ∨ j = 5 := by omega
  all_goals exact Box.cell H _ rfl
theorem Flt.below {W' : World} (H : Flt W p k a c m v h) (hb : Below W.heap.size W W') : Flt W' p k a c m v h := Box.below H hb
theorem Flt.alloc (H : Flt W p k a c m v h) (o : Obj) : Flt (W.alloc o) p k a c m v h := Box.alloc H o
theorem Flt.new (W : World) (k : Int) (a : Nat → Int) (c m v : Int) (h : Bool) : Flt (W.alloc (.cells #[.int .i64 k, .int .i64 (a 0), .int .i64 (a 1), .int .i64 (a 2), .int .i64 (a 3), .int .i64 (a 4), .int .i64 (a 5), .int .i64 c, .int .u8 m, .int .u8 v, .bool h] 26)) W.heap.size k a c m v h := Box.new W _ (vsF k a c m v h)
end
/-- The indices below m that the fault covers. -/
def cvF (x : Nat → Int) (k : Int) (a : Nat → Int) (m : Nat) : List Nat := (List.range m).filter (fun i => covB k a (atP x (i : Int)))
theorem cvF_zero (x : Nat → Int) (k : Int) (a : Nat → Int) : cvF x k a 0 = [] := rfl
theorem cvF_yes {x : Nat → Int} {k : Int} {a : Nat → Int} {m : Nat} (h : covB k a (atP x (m : Int)) = true) : cvF x k a (m + 1) = cvF x k a m ++ [m] := by
  unfold cvF
  rw [List.range_succ, List.filter_append, List.filter_cons, h]; rfl
theorem cvF_no {x : Nat → Int} {k : Int} {a : Nat → Int} {m : Nat} (h : covB k a (atP x (m : Int)) = false) : cvF x k a (m + 1) = cvF x k a m := by
  unfold cvF
  rw [List.range_succ, List.filter_append, List.filter_cons, h]; simp
theorem cvF_len (x : Nat → Int) (k : Int) (a : Nat → Int) (m : Nat) : (cvF x k a m).length ≤ m := by
  unfold cvF
  have := List.length_filter_le (fun i : Nat => covB k a (atP x (i : Int))) (List.range m)
  simpa using this
/-- Six bools in a block. -/
def vsB (f : Nat → Bool) : List Value := [.bool (f 0), .bool (f 1), .bool (f 2), .bool (f 3), .bool (f 4), .bool (f 5)]
def Bls (W : World) (p : Nat) (f : Nat → Bool) : Prop := Box W p 66 (vsB f)
theorem Bls.at {W : World} {p : Nat} {f : Nat → Bool} (h : Bls W p f) (j : Nat) (hj : j < 6) : W.cell? ⟨p, j, none⟩ = some (.bool (f j)) := by
  obtain rfl | rfl | rfl | rfl | rfl | rfl : j = 0 ∨ j = 1 ∨ j = 2 ∨ j = 3 ∨ j = 4 ∨ j = 5 := by omega
  all_goals exact Box.cell h _ rfl
theorem Bls.below {W W' : World} {p : Nat} {f : Nat → Bool} (h : Bls W p f) (hb : Below W.heap.size W W') : Bls W' p f := Box.below h hb
theorem Bls.new (W : World) (f : Nat → Bool) : Bls (W.alloc (.cells #[.bool (f 0), .bool (f 1), .bool (f 2), .bool (f 3), .bool (f 4), .bool (f 5)] 66)) W.heap.size f := Box.new W _ (vsB f)
attribute [irreducible] Bls Cov covB Flt onlyB Only
end Go.Proofs.YtdgkdoccllolpaaDoor.P
