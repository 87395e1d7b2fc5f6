/- Shapes, places, indices: mathematics. -/
import Derived.Test.YtememimblalkfaaGRow
namespace Go.Proofs.Ytememimblalkfaa.P
open Go Go.RowKit Go.Shelf

/-- The sum of the first k numbers. -/
def sm (x : Nat → Int) : Nat → Int
  | 0 => 0
  | k + 1 => sm x k + x k
theorem sm_succ (x : Nat → Int) (k : Nat) : sm x (k + 1) = sm x k + x k := rfl
/-- The first k numbers are from 0 to 12. -/
def Fit (x : Nat → Int) (k : Nat) : Prop := ∀ j, j < k → 0 ≤ x j ∧ x j ≤ 12
theorem sm_bound {x : Nat → Int} {k : Nat} (h : Fit x k) : 0 ≤ sm x k ∧ sm x k ≤ 12 * (k : Int) := by
  induction k with
  | zero => exact ⟨Int.le_refl _, Int.le_refl _⟩
  | succ k ih =>
    have h1 := ih (fun j hj => h j (by omega))
    have h2 := h k (by omega)
    rw [sm_succ]
    omega
theorem Fit.zero (x : Nat → Int) : Fit x 0 := fun j hj => absurd hj (Nat.not_lt_zero j)
theorem Fit.succ {x : Nat → Int} {k : Nat} (h : Fit x k) (h1 : ¬ x k < 0) (h2 : ¬ 12 < x k) : Fit x (k + 1) := fun j hj => by
  by_cases e : j = k
  · rw [e]; omega
  · exact h j (by omega)
/-- The shape is valid. -/
def Ok (x : Nat → Int) : Prop := Fit x 6 ∧ sm x 6 ≤ 12
instance (x : Nat → Int) (k : Nat) : Decidable (Fit x k) := by unfold Fit; infer_instance
instance (x : Nat → Int) : Decidable (Ok x) := by unfold Ok; infer_instance
def okB (x : Nat → Int) : Bool := decide (Ok x)
theorem ok_no {x : Nat → Int} {k : Nat} (hk : k < 6) (h : x k < 0 ∨ 12 < x k) : okB x = false := by
  unfold okB
  rw [decide_eq_false_iff_not]
  rintro ⟨h1, _⟩
  have := h1 k hk
  omega
theorem ok_fit {x : Nat → Int} (h : Fit x 6) : okB x = decide (sm x 6 ≤ 12) := by
  unfold okB Ok
  simp [h]
theorem sm_wrap {x : Nat → Int} {k : Nat} (hk : k < 6) (h : Fit x k) (h1 : ¬ x k < 0) (h2 : ¬ 12 < x k) : IntKind.i64.wrap (sm x k + x k) = sm x k + x k := by
  have := sm_bound h
  rw [IntKind.wrap_i64]; omega
/-- Bits of a shape as natural numbers, their sum, powers of 2. -/
def wd (x : Nat → Int) (k : Nat) : Nat := (x k).toNat
def tm (x : Nat → Int) : Nat → Nat
  | 0 => 0
  | k + 1 => tm x k + wd x k
theorem tm_zero (x : Nat → Int) : tm x 0 = 0 := rfl
theorem tm_succ (x : Nat → Int) (k : Nat) : tm x (k + 1) = tm x k + wd x k := rfl
theorem tm_mono (x : Nat → Int) {j k : Nat} (h : j ≤ k) : tm x j ≤ tm x k := by
  induction k with
  | zero => rw [show j = 0 by omega]; exact Nat.le_refl _
  | succ k ih =>
    by_cases e : j = k + 1
    · rw [e]; exact Nat.le_refl _
    · exact Nat.le_trans (ih (by omega)) (Nat.le_add_right _ _)
theorem fit_wd {x : Nat → Int} {k : Nat} (h : Fit x k) {j : Nat} (hj : j < k) : x j = (wd x j : Int) ∧ wd x j ≤ 12 := by
  have := h j hj
  unfold wd
  omega
theorem sm_tm {x : Nat → Int} {k : Nat} (h : Fit x k) : sm x k = (tm x k : Int) := by
  induction k with
  | zero => rfl
  | succ k ih =>
    rw [sm_succ, tm_succ, ih (fun j hj => h j (by omega)), (fit_wd h (Nat.lt_succ_self k)).1]
    omega
theorem ok_yes {x : Nat → Int} (h : okB x = true) : (∀ j, j < 6 → x j = (wd x j : Int) ∧ wd x j ≤ 12) ∧ tm x 6 ≤ 12 := by
  unfold okB at h
  rw [decide_eq_true_iff] at h
  refine ⟨fun j hj => fit_wd h.1 hj, ?_⟩
  have := sm_tm h.1
  have := h.2
  omega
def pw (t : Nat) : Nat := 2 ^ t
theorem pw_zero : pw 0 = 1 := rfl
theorem pw_pos (t : Nat) : 0 < pw t := Nat.pow_pos (by decide)
theorem pw_add (s t : Nat) : pw (s + t) = pw s * pw t := Nat.pow_add 2 s t
theorem pw_le {s t : Nat} (h : s ≤ t) : pw s ≤ pw t := Nat.pow_le_pow_right (by decide) h
theorem pw_12 {t : Nat} (h : t ≤ 12) : pw t ≤ 4096 := Nat.le_trans (pw_le h) (by decide)
theorem shl_pw {t n : Nat} (h : t + n ≤ 12) : IntKind.i64.wrap ((pw t : Int) * 2 ^ n) = (pw (t + n) : Int) := by
  have e : ((pw t : Int) * 2 ^ n) = (pw (t + n) : Int) := by rw [pw_add]; simp [pw]
  rw [e]
  have := pw_12 h
  rw [IntKind.wrap_i64]; omega
theorem shl_one {n : Nat} (h : n ≤ 12) : IntKind.i64.wrap (2 ^ n) = (pw n : Int) := by
  have := shl_pw (t := 0) (n := n) (by omega)
  rw [pw_zero, Nat.zero_add] at this
  simpa using this
/-- The size of a shape. -/
def szN (x : Nat → Int) : Nat := if okB x then pw (tm x 6) else 0
theorem sz_no {x : Nat → Int} (h : okB x = false) : szN x = 0 := by unfold szN; rw [h]; rfl
theorem sz_yes {x : Nat → Int} (h : okB x = true) : szN x = pw (tm x 6) := by unfold szN; rw [h]; rfl
theorem sz_le (x : Nat → Int) : szN x ≤ 4096 := by
  cases h : okB x with
  | true => rw [sz_yes h]; exact pw_12 (ok_yes h).2
  | false => rw [sz_no h]; exact Nat.zero_le _
/-- The first k numbers of the place y fit the shape x. -/
def Inn (x y : Nat → Int) (k : Nat) : Prop := ∀ j, j < k → 0 ≤ y j ∧ y j < (pw (wd x j) : Int)
instance (x y : Nat → Int) (k : Nat) : Decidable (Inn x y k) := by unfold Inn; infer_instance
theorem Inn.zero (x y : Nat → Int) : Inn x y 0 := fun j hj => absurd hj (Nat.not_lt_zero j)
theorem Inn.succ {x y : Nat → Int} {k : Nat} (h : Inn x y k) (h1 : ¬ y k < 0) (h2 : ¬ (pw (wd x k) : Int) ≤ y k) : Inn x y (k + 1) := fun j hj => by
  by_cases e : j = k
  · rw [e]; omega
  · exact h j (by omega)
theorem Inn.at {x y : Nat → Int} {k : Nat} (h : Inn x y k) {j : Nat} (hj : j < k) : 0 ≤ y j ∧ y j < (pw (wd x j) : Int) := h j hj
def vpB (x y : Nat → Int) : Bool := okB x && decide (Inn x y 6)
theorem vp_bad {x y : Nat → Int} (h : okB x = false) : vpB x y = false := by unfold vpB; rw [h]; rfl
theorem vp_no {x y : Nat → Int} {k : Nat} (hk : k < 6) (h : y k < 0 ∨ (pw (wd x k) : Int) ≤ y k) : vpB x y = false := by
  unfold vpB
  rw [decide_eq_false, Bool.and_false]
  intro h1
  have := h1 k hk
  omega
theorem vp_yes {x y : Nat → Int} (h : okB x = true) (hi : Inn x y 6) : vpB x y = true := by
  unfold vpB
  rw [h, decide_eq_true hi]; rfl
theorem vp_in {x y : Nat → Int} (h : vpB x y = true) : okB x = true ∧ Inn x y 6 := by
  unfold vpB at h
  rw [Bool.and_eq_true, decide_eq_true_iff] at h
  exact h
/-- The index of the first k numbers. -/
def yn (y : Nat → Int) (j : Nat) : Nat := (y j).toNat
def ix (x y : Nat → Int) : Nat → Nat
  | 0 => 0
  | k + 1 => ix x y k * pw (wd x k) + yn y k
theorem ix_zero (x y : Nat → Int) : ix x y 0 = 0 := rfl
theorem ix_succ (x y : Nat → Int) (k : Nat) : ix x y (k + 1) = ix x y k * pw (wd x k) + yn y k := rfl
theorem Inn.yn {x y : Nat → Int} {k j : Nat} (h : Inn x y k) (hj : j < k) : y j = (yn y j : Int) ∧ yn y j < pw (wd x j) := by
  have := h j hj
  unfold P.yn
  omega
theorem ix_lt {x y : Nat → Int} {k : Nat} (h : Inn x y k) : ix x y k < pw (tm x k) := by
  induction k with
  | zero => exact Nat.one_pos
  | succ k ih =>
    have h1 := ih (fun j hj => h j (by omega))
    have h2 := (Inn.yn h (Nat.lt_succ_self k)).2
    rw [ix_succ, tm_succ, pw_add]
    have h3 : (ix x y k + 1) * pw (wd x k) ≤ pw (tm x k) * pw (wd x k) := Nat.mul_le_mul_right _ h1
    rw [Nat.add_mul, Nat.one_mul] at h3
    omega
def idxV (x y : Nat → Int) : Nat := if vpB x y then ix x y 6 else 0
def idxE (x y : Nat → Int) : Int := if okB x then (if vpB x y then 0 else 2) else 1
theorem idx_bad {x y : Nat → Int} (h : okB x = false) : idxV x y = 0 ∧ idxE x y = 1 := by
  have h2 : vpB x y = false := by unfold vpB; rw [h]; rfl
  unfold idxV idxE
  rw [h, h2]; exact ⟨rfl, rfl⟩
theorem idx_no {x y : Nat → Int} (h : okB x = true) (h2 : vpB x y = false) : idxV x y = 0 ∧ idxE x y = 2 := by
  unfold idxV idxE
  rw [h, h2]; exact ⟨rfl, rfl⟩
theorem idx_yes {x y : Nat → Int} (h : okB x = true) (h2 : vpB x y = true) : idxV x y = ix x y 6 ∧ idxE x y = 0 := by
  unfold idxV idxE
  rw [h, h2]; exact ⟨rfl, rfl⟩
/-- One step of the index. -/
theorem ix_step {x y : Nat → Int} (hx : tm x 6 ≤ 12) (h : Inn x y 6) {k : Nat} (hk : k < 6) :
    ∃ m n : Nat, IntKind.i64.wrap ((ix x y k : Int) * 2 ^ wd x k) = (m : Int) ∧ y k = (n : Int) ∧ IntKind.i64.wrap ((m : Int) + (n : Int)) = (ix x y (k + 1) : Int) := by
  have h1 : Inn x y (k + 1) := fun j hj => h j (by omega)
  have h2 := ix_lt h1
  have h3 := pw_12 (Nat.le_trans (tm_mono x (show k + 1 ≤ 6 from hk)) hx)
  refine ⟨ix x y k * pw (wd x k), yn y k, ?_, (Inn.yn h hk).1, ?_⟩
  · have e : ((ix x y k : Int) * 2 ^ wd x k) = ((ix x y k * pw (wd x k) : Nat) : Int) := by simp [pw]
    rw [e]
    rw [ix_succ] at h2
    rw [IntKind.wrap_i64]; omega
  · rw [ix_succ] at h2 ⊢
    rw [IntKind.wrap_i64]; omega
/-- The digits of an index. -/
def qr (x : Nat → Int) (i : Nat) : Nat → Nat
  | 0 => i
  | m + 1 => qr x i m / pw (wd x (5 - m))
theorem qr_zero (x : Nat → Int) (i : Nat) : qr x i 0 = i := rfl
theorem qr_succ (x : Nat → Int) (i m : Nat) : qr x i (m + 1) = qr x i m / pw (wd x (5 - m)) := rfl
def dg (x : Nat → Int) (i j : Nat) : Nat := qr x i (5 - j) % pw (wd x j)
theorem qr_le (x : Nat → Int) (i m : Nat) : qr x i m ≤ i := by
  induction m with
  | zero => exact Nat.le_refl _
  | succ m ih => exact Nat.le_trans (Nat.div_le_self _ _) ih
/-- The digits from k on, 0 before. -/
def dgs (x : Nat → Int) (i k : Nat) : Nat → Int := fun j => if k ≤ j then (dg x i j : Int) else 0
theorem dgs_six (x : Nat → Int) (i : Nat) {j : Nat} (h : j < 6) : dgs x i 6 j = 0 := if_neg (by omega)
theorem dgs_zero (x : Nat → Int) (i j : Nat) : dgs x i 0 j = (dg x i j : Int) := if_pos (Nat.zero_le _)
theorem dgs_at (x : Nat → Int) (i k : Nat) : dgs x i k k = (dg x i k : Int) := if_pos (Nat.le_refl _)
theorem dgs_ne (x : Nat → Int) (i k : Nat) {j : Nat} (h : j ≠ k) : dgs x i k j = dgs x i (k + 1) j := by
  unfold dgs
  by_cases e : k ≤ j
  · rw [if_pos e, if_pos (by omega)]
  · rw [if_neg e, if_neg (by omega)]
/-- What At answers. -/
def atE (x : Nat → Int) (i : Int) : Int := if okB x then (if 0 ≤ i ∧ i < (szN x : Int) then 0 else 2) else 1
def atP (x : Nat → Int) (i : Int) (j : Nat) : Int := if okB x = true ∧ 0 ≤ i ∧ i < (szN x : Int) then (dg x i.toNat j : Int) else 0
theorem at_bad {x : Nat → Int} (i : Int) (h : okB x = false) : atE x i = 1 ∧ ∀ j, atP x i j = 0 := by
  unfold atE atP
  rw [h]
  exact ⟨rfl, fun j => if_neg (by simp)⟩
theorem at_no {x : Nat → Int} {i : Int} (h : okB x = true) (h2 : i < 0 ∨ (szN x : Int) ≤ i) : atE x i = 2 ∧ ∀ j, atP x i j = 0 := by
  unfold atE atP
  rw [h]
  exact ⟨by rw [if_pos rfl, if_neg (by omega)], fun j => if_neg (by omega)⟩
theorem at_yes {x : Nat → Int} {i : Nat} (h : okB x = true) (h2 : i < szN x) : atE x (i : Int) = 0 ∧ ∀ j, atP x (i : Int) j = (dg x i j : Int) := by
  unfold atE atP
  rw [h]
  exact ⟨by rw [if_pos rfl, if_pos (by omega)], fun j => by rw [if_pos ⟨rfl, by omega, by omega⟩]; rfl⟩
theorem dg_lt (x : Nat → Int) (i j : Nat) : dg x i j < pw (wd x j) := Nat.mod_lt _ (pw_pos _)
/-- One digit. -/
theorem dg_step (x : Nat → Int) (i : Nat) {k : Nat} (hk : k < 6) : (qr x i (5 - k) : Int).tmod (pw (wd x k) : Int) = (dg x i k : Int) ∧ (qr x i (5 - k) : Int).tdiv (pw (wd x k) : Int) = (qr x i (6 - k) : Int) := by
  constructor
  · unfold dg
    exact (Int.ofNat_tmod _ _).symm
  · rw [show 6 - k = (5 - k) + 1 by omega, qr_succ, show 5 - (5 - k) = k by omega]
    exact (Int.ofNat_tdiv _ _).symm
theorem dg_shr (x : Nat → Int) (i : Nat) {k : Nat} (hk : k < 6) : (qr x i (5 - k) : Int) / 2 ^ wd x k = (qr x i (6 - k) : Int) := by
  rw [show 6 - k = (5 - k) + 1 by omega, qr_succ, show 5 - (5 - k) = k by omega]
  unfold pw
  simp
theorem dg_quo (x : Nat → Int) (i : Nat) {k : Nat} (hk : k < 6) : (qr x i (5 - k) : Int) / (pw (wd x k) : Int) = (qr x i (6 - k) : Int) := by
  rw [show 6 - k = (5 - k) + 1 by omega, qr_succ, show 5 - (5 - k) = k by omega]
  exact (Int.natCast_ediv _ _).symm
/-- One more at r. -/
def bump (z : Nat → Int) (r : Nat) : Nat → Int := fun j => if j = r then z j + 1 else z j
theorem bump_at (z : Nat → Int) (r : Nat) : bump z r r = z r + 1 := if_pos rfl
theorem bump_ne (z : Nat → Int) (r : Nat) {j : Nat} (h : j ≠ r) : bump z r j = z j := if_neg h
theorem sm_bump (z : Nat → Int) (r n : Nat) : sm (bump z r) n = sm z n + (if r < n then 1 else 0) := by
  induction n with
  | zero => rfl
  | succ n ih =>
    rw [sm_succ, sm_succ, ih]
    by_cases e : n = r
    · subst e
      rw [bump_at, if_neg (by omega), if_pos (by omega)]; omega
    · rw [bump_ne _ _ e]
      by_cases h : r < n
      · rw [if_pos h, if_pos (by omega)]; omega
      · rw [if_neg h, if_neg (by omega)]; omega
theorem le_sm {z : Nat → Int} {n : Nat} (h : ∀ j, j < n → 0 ≤ z j) {r : Nat} (hr : r < n) : z r ≤ sm z n ∧ 0 ≤ sm z n := by
  induction n with
  | zero => omega
  | succ n ih =>
    rw [sm_succ]
    have hn := h n (by omega)
    have h0 : 0 ≤ sm z n := by
      have : ∀ m, m ≤ n → 0 ≤ sm z m := by
        intro m
        induction m with
        | zero => intro _; exact Int.le_refl _
        | succ m im => intro hm; rw [sm_succ]; have := im (by omega); have := h m (by omega); omega
      exact this n (Nat.le_refl _)
    by_cases e : r = n
    · subst e; omega
    · have := ih (fun j hj => h j (by omega)) (by omega)
      omega
theorem ok_sum {z : Nat → Int} {m : Nat} (h : ∀ j, j < 6 → 0 ≤ z j) (hs : sm z 6 ≤ (m : Int)) (hm : m ≤ 12) : okB z = true ∧ tm z 6 ≤ m := by
  have hf : Fit z 6 := fun j hj => by
    have := (le_sm h hj).1
    have := h j hj
    omega
  refine ⟨by unfold okB; rw [decide_eq_true_iff]; exact ⟨hf, by omega⟩, ?_⟩
  have := sm_tm hf
  omega
theorem sm_const (n : Nat) : sm (fun _ => 0) n = 0 := by
  induction n with
  | zero => rfl
  | succ n ih => rw [sm_succ, ih]; rfl
theorem sm_zero (x : Nat → Int) : sm x 0 = 0 := rfl
attribute [irreducible] sm okB Fit wd tm pw szN Inn vpB yn ix idxV idxE qr dg dgs atE atP bump
end Go.Proofs.Ytememimblalkfaa.P
