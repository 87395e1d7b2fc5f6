/- PartFaults: how many words a fault covers: mathematics. -/
import Derived.Test.YtdgkdoccllolpaaDoorPCovM
import Derived.Test.YtdgkdoccllolpaaDoorPIxM
namespace Go.Proofs.YtdgkdoccllolpaaDoor.P
open Go Go.RowKit Go.Shelf
/-- How many numbers below n meet f. -/
def cnt (f : Nat → Bool) : Nat → Nat
  | 0 => 0
  | n + 1 => cnt f n + (if f n then 1 else 0)
theorem cnt_succ (f : Nat → Bool) (n : Nat) : cnt f (n + 1) = cnt f n + (if f n then 1 else 0) := rfl
theorem cnt_congr {f g : Nat → Bool} {n : Nat} (h : ∀ i, i < n → f i = g i) : cnt f n = cnt g n := by
  induction n with
  | zero => rfl
  | succ n ih => rw [cnt_succ, cnt_succ, ih (fun i hi => h i (by omega)), h n (by omega)]
theorem cnt_filter (f : Nat → Bool) (n : Nat) : ((List.range n).filter f).length = cnt f n := by
  induction n with
  | zero => rfl
  | succ n ih =>
    rw [List.range_succ, List.filter_append, List.length_append, ih, cnt_succ]
    cases h : f n <;> simp [h]
theorem cnt_add (f : Nat → Bool) (n m : Nat) : cnt f (n + m) = cnt f n + cnt (fun i => f (n + i)) m := by
  induction m with
  | zero => rfl
  | succ m ih => rw [← Nat.add_assoc, cnt_succ, ih, cnt_succ, Nat.add_assoc]
theorem cnt_and (b : Bool) (g : Nat → Bool) (n : Nat) : cnt (fun i => b && g i) n = if b then cnt g n else 0 := by
  cases b with
  | true => exact cnt_congr (fun i _ => Bool.true_and _)
  | false =>
    induction n with
    | zero => rfl
    | succ n ih => rw [cnt_succ, ih]; rfl
theorem cnt_mul (f g : Nat → Bool) (a b : Nat) (hb : 0 < b) : cnt (fun i => f (i / b) && g (i % b)) (a * b) = cnt f a * cnt g b := by
  induction a with
  | zero => rw [Nat.zero_mul]; simp [cnt]
  | succ a ih =>
    rw [Nat.succ_mul, cnt_add, ih, cnt_succ, Nat.add_mul]
    congr 1
    rw [cnt_congr (g := fun i => f a && g i) (fun i hi => by
      rw [show (a * b + i) / b = a by rw [Nat.mul_comm, Nat.mul_add_div hb, Nat.div_eq_of_lt hi, Nat.add_zero], show (a * b + i) % b = i by rw [Nat.mul_comm, Nat.mul_add_mod, Nat.mod_eq_of_lt hi]])]
    rw [cnt_and]
    cases f a <;> simp
theorem cnt_one {c n : Nat} (h : c < n) : cnt (fun r => decide (c = r)) n = 1 := by
  have h0 : ∀ m, m ≤ c → cnt (fun r => decide (c = r)) m = 0 := by
    intro m
    induction m with
    | zero => intro _; rfl
    | succ m ih => intro hm; rw [cnt_succ, ih (by omega), decide_eq_false (by omega)]; rfl
  induction n with
  | zero => omega
  | succ n ih =>
    rw [cnt_succ]
    by_cases e : c = n
    · subst e; rw [h0 c (Nat.le_refl _), decide_eq_true rfl]; rfl
    · rw [ih (by omega), decide_eq_false e]; rfl
theorem cnt_true (n : Nat) : cnt (fun _ => true) n = n := by
  induction n with
  | zero => rfl
  | succ n ih => rw [cnt_succ, ih]; rfl
/-- The digits of q, k of them, meet P. -/
def GG (x : Nat → Int) (P : Nat → Nat → Bool) : Nat → Nat → Bool
  | 0, _ => true
  | k + 1, q => GG x P k (q / pw (wd x k)) && P k (q % pw (wd x k))
def PR (x : Nat → Int) (P : Nat → Nat → Bool) : Nat → Nat
  | 0 => 1
  | k + 1 => PR x P k * cnt (P k) (pw (wd x k))
theorem GG_cnt (x : Nat → Int) (P : Nat → Nat → Bool) (k : Nat) : cnt (GG x P k) (pw (tm x k)) = PR x P k := by
  induction k with
  | zero => rw [tm_zero, pw_zero]; rfl
  | succ k ih =>
    rw [tm_succ, pw_add]
    have := cnt_mul (GG x P k) (P k) (pw (tm x k)) (pw (wd x k)) (pw_pos _)
    rw [ih] at this
    exact this
theorem GG_at (x : Nat → Int) (P : Nat → Nat → Bool) (i : Nat) : ∀ k, k ≤ 6 → (GG x P k (qr x i (6 - k)) = true ↔ ∀ j, j < k → P j (dg x i j) = true) := by
  intro k
  induction k with
  | zero => intro _; exact ⟨fun _ j hj => absurd hj (Nat.not_lt_zero j), fun _ => rfl⟩
  | succ k ih =>
    intro hk
    have h1 : qr x i (6 - (k + 1)) / pw (wd x k) = qr x i (6 - k) := by
      rw [show 6 - (k + 1) = 5 - k by omega, show 6 - k = (5 - k) + 1 by omega, qr_succ, show 5 - (5 - k) = k by omega]
    have h2 : qr x i (6 - (k + 1)) % pw (wd x k) = dg x i k := by rw [dg_def, show 6 - (k + 1) = 5 - k by omega]
    show (GG x P k (qr x i (6 - (k + 1)) / pw (wd x k)) && P k (qr x i (6 - (k + 1)) % pw (wd x k))) = true ↔ _
    rw [h1, h2, Bool.and_eq_true, ih (by omega)]
    constructor
    · rintro ⟨g1, g2⟩ j hj
      by_cases e : j = k
      · subst e; exact g2
      · exact g1 j (by omega)
    · intro g
      exact ⟨fun j hj => g j (by omega), g k (by omega)⟩
section
attribute [local semireducible] covB Cov
theorem cov_iff' {k : Int} {a b : Nat → Int} (hk : knB k = true) : covB k a b = true ↔ ∀ j, j < 6 → nmB k j = true → a j = b j := by
  unfold covB
  rw [hk, Bool.true_and, decide_eq_true_iff]
  exact Iff.rfl
end
/-- The condition on digit j. -/
def PP (k : Int) (y : Nat → Int) (j r : Nat) : Bool := !nmB k j || decide (yn y j = r)
theorem cv_len {x y : Nat → Int} {k : Int} (hx : okB x = true) (hk : knB k = true) (hy : Inn x y 6) : (cvF x k y (szN x)).length = PR x (PP k y) 6 := by
  unfold cvF
  rw [cnt_filter, ← GG_cnt, sz_yes hx]
  refine cnt_congr (fun i hi => ?_)
  rw [Bool.eq_iff_iff, cov_iff' hk]
  have h := GG_at x (PP k y) i 6 (Nat.le_refl _)
  rw [Nat.sub_self, qr_zero] at h
  rw [h]
  have hat := (at_yes hx (i := i) (by rw [sz_yes hx]; exact hi)).2
  constructor
  · intro g j hj
    unfold PP
    cases hn : nmB k j with
    | false => rfl
    | true =>
      have := g j hj hn
      rw [hat, (Inn.yn hy hj).1] at this
      simp; omega
  · intro g j hj hn
    have := g j hj
    unfold PP at this
    rw [hn] at this
    rw [hat, (Inn.yn hy hj).1]
    simp at this
    omega
theorem PP_no {x y : Nat → Int} {k : Int} {j : Nat} (h : nmB k j = false) : cnt (PP k y j) (pw (wd x j)) = pw (wd x j) := by
  rw [show PP k y j = fun _ => true from funext fun r => by unfold PP; rw [h]; rfl, cnt_true]
theorem PP_yes {x y : Nat → Int} {k : Int} {j : Nat} (hy : Inn x y 6) (hj : j < 6) (h : nmB k j = true) : cnt (PP k y j) (pw (wd x j)) = 1 := by
  rw [show PP k y j = fun r => decide (yn y j = r) from funext fun r => by unfold PP; rw [h]; rfl]
  exact cnt_one (Inn.yn hy hj).2
/-- How many bits the places have that a fault of kind k covers. -/
def sz7 (x : Nat → Int) : Nat → Nat
  | 2 => wd x 5
  | 3 => wd x 4
  | 4 => wd x 4 + wd x 5
  | 5 => wd x 3 + wd x 4 + wd x 5
  | 6 => wd x 2 + wd x 3 + wd x 4 + wd x 5
  | _ => 0
section
attribute [local semireducible] nmB
theorem cv_size {x y : Nat → Int} (hx : okB x = true) (hy : Inn x y 6) {k : Nat} (h1 : 1 ≤ k) (h6 : k ≤ 6) (hk : knB (k : Int) = true) : (cvF x (k : Int) y (szN x)).length = pw (sz7 x k) := by
  rw [cv_len hx hk hy]
  show (((((1 * cnt (PP k y 0) (pw (wd x 0))) * cnt (PP k y 1) (pw (wd x 1))) * cnt (PP k y 2) (pw (wd x 2))) * cnt (PP k y 3) (pw (wd x 3))) * cnt (PP k y 4) (pw (wd x 4))) * cnt (PP k y 5) (pw (wd x 5)) = _
  obtain rfl | rfl | rfl | rfl | rfl | rfl : k = 1 ∨ k = 2 ∨ k = 3 ∨ k = 4 ∨ k = 5 ∨ k = 6 := by omega
  · rw [PP_yes hy (by decide) (by rfl), PP_yes hy (by decide) (by rfl), PP_yes hy (by decide) (by rfl), PP_yes hy (by decide) (by rfl), PP_yes hy (by decide) (by rfl), PP_yes hy (by decide) (by rfl)]
    rw [show sz7 x 1 = 0 from rfl, pw_zero]
  · rw [PP_yes hy (by decide) (by rfl), PP_yes hy (by decide) (by rfl), PP_yes hy (by decide) (by rfl), PP_yes hy (by decide) (by rfl), PP_yes hy (by decide) (by rfl), PP_no (by rfl)]
    rw [show sz7 x 2 = wd x 5 from rfl]; omega
  · rw [PP_yes hy (by decide) (by rfl), PP_yes hy (by decide) (by rfl), PP_yes hy (by decide) (by rfl), PP_yes hy (by decide) (by rfl), PP_no (by rfl), PP_yes hy (by decide) (by rfl)]
    rw [show sz7 x 3 = wd x 4 from rfl]; omega
  · rw [PP_yes hy (by decide) (by rfl), PP_yes hy (by decide) (by rfl), PP_yes hy (by decide) (by rfl), PP_yes hy (by decide) (by rfl), PP_no (by rfl), PP_no (by rfl)]
    rw [show sz7 x 4 = wd x 4 + wd x 5 from rfl, pw_add]; simp
  · rw [PP_yes hy (by decide) (by rfl), PP_yes hy (by decide) (by rfl), PP_yes hy (by decide) (by rfl), PP_no (by rfl), PP_no (by rfl), PP_no (by rfl)]
    rw [show sz7 x 5 = wd x 3 + wd x 4 + wd x 5 from rfl, pw_add, pw_add]; simp
  · rw [PP_yes hy (by decide) (by rfl), PP_yes hy (by decide) (by rfl), PP_no (by rfl), PP_no (by rfl), PP_no (by rfl), PP_no (by rfl)]
    rw [show sz7 x 6 = wd x 2 + wd x 3 + wd x 4 + wd x 5 from rfl, pw_add, pw_add, pw_add]; simp
theorem cov_self {k : Nat} (hk : knB (k : Int) = true) (y : Nat → Int) : covB (k : Int) y y = true := (cov_iff' hk).2 (fun _ _ _ => rfl)
end
section
attribute [local semireducible] nmB knB
theorem kn_nat {k : Nat} (h1 : 1 ≤ k) (h6 : k ≤ 6) : knB (k : Int) = true := by unfold knB; rw [decide_eq_true_iff]; omega
theorem cov_up {k : Nat} (h1 : 1 ≤ k) (h5 : k < 6) (h2 : k ≠ 2) {y z : Nat → Int} (h : covB (k : Int) y z = true) : covB ((k : Int) + 1) y z = true := by
  have hk := (cov_iff' (kn_nat h1 (by omega))).1 h
  refine (cov_iff' (k := ((k + 1 : Nat) : Int)) (kn_nat (by omega) (by omega))).2 (fun j hj hn => hk j hj ?_)
  obtain rfl | rfl | rfl | rfl : k = 1 ∨ k = 3 ∨ k = 4 ∨ k = 5 := by omega
  all_goals (obtain rfl | rfl | rfl | rfl | rfl | rfl : j = 0 ∨ j = 1 ∨ j = 2 ∨ j = 3 ∨ j = 4 ∨ j = 5 := by omega) <;> first | rfl | exact absurd hn (by decide)
theorem cov_rowbank {y z : Nat → Int} (h : covB 2 y z = true) : covB 4 y z = true := by
  have hk := (cov_iff' (k := 2) (kn_nat (k := 2) (by omega) (by omega))).1 h
  refine (cov_iff' (k := 4) (kn_nat (k := 4) (by omega) (by omega))).2 (fun j hj hn => hk j hj ?_)
  obtain rfl | rfl | rfl | rfl | rfl | rfl : j = 0 ∨ j = 1 ∨ j = 2 ∨ j = 3 ∨ j = 4 ∨ j = 5 := by omega
  all_goals first | rfl | exact absurd hn (by decide)
theorem cov_cell {y z : Nat → Int} : covB 1 y z = true ↔ ∀ j, j < 6 → y j = z j := by
  rw [cov_iff' (k := 1) (kn_nat (k := 1) (by omega) (by omega))]
  exact ⟨fun h j hj => h j hj rfl, fun h j hj _ => h j hj⟩
theorem cov_both {y z : Nat → Int} : covB 1 y z = (covB 2 y z && covB 3 y z) := by
  rw [Bool.eq_iff_iff, Bool.and_eq_true, cov_cell, cov_iff' (k := 2) (kn_nat (k := 2) (by omega) (by omega)), cov_iff' (k := 3) (kn_nat (k := 3) (by omega) (by omega))]
  constructor
  · exact fun h => ⟨fun j hj _ => h j hj, fun j hj _ => h j hj⟩
  · rintro ⟨g1, g2⟩ j hj
    by_cases e : j = 5
    · subst e; exact g2 5 hj rfl
    · refine g1 j hj ?_
      obtain rfl | rfl | rfl | rfl | rfl : j = 0 ∨ j = 1 ∨ j = 2 ∨ j = 3 ∨ j = 4 := by omega
      all_goals rfl
end
theorem sz7_le {x : Nat → Int} (hx : okB x = true) (k : Nat) : sz7 x k ≤ 12 := by
  have h := (ok_yes hx).2
  have e : tm x 6 = 0 + wd x 0 + wd x 1 + wd x 2 + wd x 3 + wd x 4 + wd x 5 := by rw [show (6:Nat) = 0+1+1+1+1+1+1 from rfl]; simp only [tm_succ, tm_zero]
  unfold sz7
  split <;> omega
/-- Seven bools. -/
def vs8 (f : Nat → Bool) : List Value := [.bool (f 0), .bool (f 1), .bool (f 2), .bool (f 3), .bool (f 4), .bool (f 5), .bool (f 6)]
theorem vs8_at (f : Nat → Bool) (k : Nat) (hk : k < 7) : (vs8 f)[k]? = some (.bool (f k)) := by
  obtain rfl | rfl | rfl | rfl | rfl | rfl | rfl : k = 0 ∨ k = 1 ∨ k = 2 ∨ k = 3 ∨ k = 4 ∨ k = 5 ∨ k = 6 := by omega
  all_goals rfl
/-- The kinds below m, and whether a fault at y covers z. -/
def fm (y z : Nat → Int) (m j : Nat) : Bool := decide (j < m) && covB (j : Int) y z
section
attribute [local semireducible] knB
theorem fm_one (y z : Nat → Int) : vs8 (fm y z 1) = [.bool false, .bool false, .bool false, .bool false, .bool false, .bool false, .bool false] := by
  have h0 : fm y z 1 0 = false := by unfold fm; rw [show covB ((0 : Nat) : Int) y z = false from cov_bad (by decide)]; rfl
  unfold vs8
  rw [h0]
  rfl
end
theorem fm_all (y z : Nat → Int) {j : Nat} (h : j < 7) : fm y z 7 j = covB (j : Int) y z := by
  unfold fm
  rw [decide_eq_true h, Bool.true_and]
theorem fm_set (y z : Nat → Int) {m : Nat} (h : m < 7) : (vs8 (fm y z m)).set m (.bool (covB (m : Int) y z)) = vs8 (fm y z (m + 1)) := by
  have e : ∀ j, j ≠ m → fm y z m j = fm y z (m + 1) j := fun j hj => by
    unfold fm
    rw [show decide (j < m) = decide (j < m + 1) from decide_eq_decide.2 (by omega)]
  have e2 : covB (m : Int) y z = fm y z (m + 1) m := by
    unfold fm
    rw [decide_eq_true (Nat.lt_succ_self m), Bool.true_and]
  rw [e2]
  unfold vs8
  obtain rfl | rfl | rfl | rfl | rfl | rfl | rfl : m = 0 ∨ m = 1 ∨ m = 2 ∨ m = 3 ∨ m = 4 ∨ m = 5 ∨ m = 6 := by omega
  · rw [e 1 (by decide), e 2 (by decide), e 3 (by decide), e 4 (by decide), e 5 (by decide), e 6 (by decide)]; rfl
  · rw [e 0 (by decide), e 2 (by decide), e 3 (by decide), e 4 (by decide), e 5 (by decide), e 6 (by decide)]; rfl
  · rw [e 0 (by decide), e 1 (by decide), e 3 (by decide), e 4 (by decide), e 5 (by decide), e 6 (by decide)]; rfl
  · rw [e 0 (by decide), e 1 (by decide), e 2 (by decide), e 4 (by decide), e 5 (by decide), e 6 (by decide)]; rfl
  · rw [e 0 (by decide), e 1 (by decide), e 2 (by decide), e 3 (by decide), e 5 (by decide), e 6 (by decide)]; rfl
  · rw [e 0 (by decide), e 1 (by decide), e 2 (by decide), e 3 (by decide), e 4 (by decide), e 6 (by decide)]; rfl
  · rw [e 0 (by decide), e 1 (by decide), e 2 (by decide), e 3 (by decide), e 4 (by decide), e 5 (by decide)]; rfl
/-- The sizes as the law reckons them. -/
def vsz (x : Nat → Int) : List Value := [.int .i64 0, .int .i64 0, .int .i64 (x 5), .int .i64 (x 4), .int .i64 (RowKit.wrap64 (x 4 + x 5)), .int .i64 (RowKit.wrap64 (RowKit.wrap64 (x 3 + x 4) + x 5)), .int .i64 (RowKit.wrap64 (RowKit.wrap64 (RowKit.wrap64 (x 2 + x 3) + x 4) + x 5))]
theorem vsz_at {x : Nat → Int} (hx : okB x = true) (k : Nat) (hk : k < 7) : (vsz x)[k]? = some (.int .i64 ((sz7 x k : Nat) : Int)) := by
  have h := (ok_yes hx).1
  have h2 := h 2 (by decide)
  have h3 := h 3 (by decide)
  have h4 := h 4 (by decide)
  have h5 := h 5 (by decide)
  obtain rfl | rfl | rfl | rfl | rfl | rfl | rfl : k = 0 ∨ k = 1 ∨ k = 2 ∨ k = 3 ∨ k = 4 ∨ k = 5 ∨ k = 6 := by omega
  · rfl
  · rfl
  · show some (Value.int .i64 (x 5)) = _
    rw [show sz7 x 2 = wd x 5 from rfl, ← h5.1]
  · show some (Value.int .i64 (x 4)) = _
    rw [show sz7 x 3 = wd x 4 from rfl, ← h4.1]
  · show some (Value.int .i64 (RowKit.wrap64 (x 4 + x 5))) = _
    rw [show sz7 x 4 = wd x 4 + wd x 5 from rfl, show RowKit.wrap64 (x 4 + x 5) = ((wd x 4 + wd x 5 : Nat) : Int) from by unfold RowKit.wrap64; omega]
  · show some (Value.int .i64 (RowKit.wrap64 (RowKit.wrap64 (x 3 + x 4) + x 5))) = _
    rw [show sz7 x 5 = wd x 3 + wd x 4 + wd x 5 from rfl, show RowKit.wrap64 (x 3 + x 4) = ((wd x 3 + wd x 4 : Nat) : Int) from by unfold RowKit.wrap64; omega, show RowKit.wrap64 (((wd x 3 + wd x 4 : Nat) : Int) + x 5) = ((wd x 3 + wd x 4 + wd x 5 : Nat) : Int) from by unfold RowKit.wrap64; omega]
  · show some (Value.int .i64 (RowKit.wrap64 (RowKit.wrap64 (RowKit.wrap64 (x 2 + x 3) + x 4) + x 5))) = _
    rw [show sz7 x 6 = wd x 2 + wd x 3 + wd x 4 + wd x 5 from rfl, show RowKit.wrap64 (x 2 + x 3) = ((wd x 2 + wd x 3 : Nat) : Int) from by unfold RowKit.wrap64; omega, show RowKit.wrap64 (((wd x 2 + wd x 3 : Nat) : Int) + x 4) = ((wd x 2 + wd x 3 + wd x 4 : Nat) : Int) from by unfold RowKit.wrap64; omega, show RowKit.wrap64 (((wd x 2 + wd x 3 + wd x 4 : Nat) : Int) + x 5) = ((wd x 2 + wd x 3 + wd x 4 + wd x 5 : Nat) : Int) from by unfold RowKit.wrap64; omega]
attribute [irreducible] sz7 cnt GG PR PP fm
end Go.Proofs.YtdgkdoccllolpaaDoor.P
