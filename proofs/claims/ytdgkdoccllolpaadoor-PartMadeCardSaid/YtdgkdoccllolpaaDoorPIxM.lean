/- Indices and places undo each other: mathematics. -/
import Derived.Test.YtdgkdoccllolpaaDoorPMath
namespace Go.Proofs.YtdgkdoccllolpaaDoor.P
open Go Go.RowKit Go.Shelf
section
attribute [local semireducible] dg
theorem dg_def (x : Nat → Int) (i j : Nat) : dg x i j = qr x i (5 - j) % pw (wd x j) := rfl
end
section
attribute [local semireducible] Inn yn
theorem inn_dg {x : Nat → Int} {i : Nat} {y : Nat → Int} (h : ∀ j, j < 6 → y j = (dg x i j : Int)) : Inn x y 6 := fun j hj => by
  rw [h j hj]
  have := dg_lt x i j
  omega
theorem yn_eq {y : Nat → Int} {j n : Nat} (h : y j = (n : Int)) : yn y j = n := by
  unfold yn; omega
end
theorem ix_dg {x : Nat → Int} {i : Nat} {y : Nat → Int} (hi : i < pw (tm x 6)) (h : ∀ j, j < 6 → y j = (dg x i j : Int)) : ix x y 6 = i := by
  have hq : ∀ m, m ≤ 6 → qr x i m < pw (tm x (6 - m)) := by
    intro m
    induction m with
    | zero => intro _; rw [qr_zero]; exact hi
    | succ m ih =>
      intro hm
      have h1 := ih (by omega)
      rw [qr_succ, show 6 - (m + 1) = 5 - m by omega]
      rw [show 6 - m = (5 - m) + 1 by omega, tm_succ, pw_add, Nat.mul_comm] at h1
      exact Nat.div_lt_of_lt_mul h1
  have h6 : qr x i 6 = 0 := by
    have := hq 6 (Nat.le_refl _)
    rw [Nat.sub_self, tm_zero, pw_zero] at this
    omega
  have hk : ∀ k, k ≤ 6 → ix x y k = qr x i (6 - k) := by
    intro k
    induction k with
    | zero => intro _; rw [ix_zero, Nat.sub_zero, h6]
    | succ k ih =>
      intro hk
      rw [ix_succ, ih (by omega), yn_eq (h k (by omega)), dg_def, show 6 - (k + 1) = 5 - k by omega, show 6 - k = (5 - k) + 1 by omega, qr_succ, show 5 - (5 - k) = k by omega]
      have := Nat.div_add_mod (qr x i (5 - k)) (pw (wd x k))
      rw [Nat.mul_comm]
      exact this
  rw [hk 6 (Nat.le_refl _), Nat.sub_self, qr_zero]
theorem dg_ix {x y : Nat → Int} (hi : Inn x y 6) {j : Nat} (hj : j < 6) : (dg x (ix x y 6) j : Int) = y j := by
  have hq : ∀ m, m ≤ 6 → qr x (ix x y 6) m = ix x y (6 - m) := by
    intro m
    induction m with
    | zero => intro _; rw [qr_zero]
    | succ m ih =>
      intro hm
      have hl := (Inn.yn hi (show 5 - m < 6 by omega)).2
      rw [qr_succ, ih (by omega), show 6 - m = (5 - m) + 1 by omega, ix_succ, show 6 - (m + 1) = 5 - m by omega]
      rw [Nat.mul_comm, Nat.mul_add_div (pw_pos _), Nat.div_eq_of_lt hl, Nat.add_zero]
  have hl := Inn.yn hi hj
  rw [dg_def, hq _ (by omega), show 6 - (5 - j) = j + 1 by omega, ix_succ, Nat.mul_comm, Nat.mul_add_mod, Nat.mod_eq_of_lt hl.2]
  exact hl.1.symm
theorem sz_pos {x : Nat → Int} (h : okB x = true) : 0 < szN x := by
  rw [sz_yes h]; exact pw_pos _
/-- At and then Index. -/
theorem at_idx {x : Nat → Int} (h : okB x = true) {i : Nat} (hi : i < szN x) : atE x (i : Int) = 0 ∧ vpB x (atP x (i : Int)) = true ∧ idxV x (atP x (i : Int)) = i ∧ idxE x (atP x (i : Int)) = 0 := by
  obtain ⟨h1, h2⟩ := at_yes h hi
  have hv := vp_yes h (inn_dg (x := x) (i := i) (fun j _ => h2 j))
  obtain ⟨h3, h4⟩ := idx_yes h hv
  rw [sz_yes h] at hi
  exact ⟨h1, hv, by rw [h3, ix_dg hi (fun j _ => h2 j)], h4⟩
/-- Index and then At. -/
theorem idx_at {x y : Nat → Int} (h : okB x = true) (hi : Inn x y 6) : idxE x y = 0 ∧ idxV x y < szN x ∧ atE x (idxV x y : Int) = 0 ∧ ∀ j, j < 6 → atP x (idxV x y : Int) j = y j := by
  have hv := vp_yes h hi
  obtain ⟨h3, h4⟩ := idx_yes h hv
  have hlt : idxV x y < szN x := by rw [h3, sz_yes h]; exact ix_lt hi
  obtain ⟨h1, h2⟩ := at_yes h hlt
  exact ⟨h4, hlt, h1, fun j hj => by rw [h2, h3, dg_ix hi hj]⟩
end Go.Proofs.YtdgkdoccllolpaaDoor.P
