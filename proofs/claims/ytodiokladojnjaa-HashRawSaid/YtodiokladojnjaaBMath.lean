/- Vectors of 64 elements over two, their sums and products, and elimination. -/
namespace Go.Proofs.Ytodiokladojnjaa.BM

abbrev V := BitVec 64
/-- Element k of v. -/
def bt (v : V) (k : Nat) : Bool := v.getLsbD k
theorem bt_xor (a b : V) (k : Nat) : bt (a ^^^ b) k = (bt a k ^^ bt b k) := BitVec.getLsbD_xor
theorem bt_and (a b : V) (k : Nat) : bt (a &&& b) k = (bt a k && bt b k) := BitVec.getLsbD_and
theorem bt_zero (k : Nat) : bt 0 k = false := BitVec.getLsbD_zero
theorem bt_ge (v : V) {k : Nat} (h : 64 ≤ k) : bt v k = false := BitVec.getLsbD_of_ge v k h
theorem bt_ext {a b : V} (h : ∀ k, k < 64 → bt a k = bt b k) : a = b := BitVec.eq_of_getLsbD_eq h
theorem bt_nat (v : V) (k : Nat) : v.toNat.testBit k = bt v k := BitVec.testBit_toNat v

/-- The sum of the first n values. -/
def xs : Nat → (Nat → Bool) → Bool
  | 0, _ => false
  | n + 1, f => xs n f ^^ f n
theorem xs_congr {n : Nat} {f g : Nat → Bool} (h : ∀ i, i < n → f i = g i) : xs n f = xs n g := by
  induction n with
  | zero => rfl
  | succ n ih => simp only [xs]; rw [ih (fun i hi => h i (by omega)), h n (by omega)]
theorem xs_zero (n : Nat) : xs n (fun _ => false) = false := by
  induction n with
  | zero => rfl
  | succ n ih => simp only [xs, ih]; rfl
theorem xs_false {n : Nat} {f : Nat → Bool} (h : ∀ i, i < n → f i = false) : xs n f = false := (xs_congr h).trans (xs_zero n)
theorem xor4 (a b c d : Bool) : ((a ^^ b) ^^ (c ^^ d)) = ((a ^^ c) ^^ (b ^^ d)) := by cases a <;> cases b <;> cases c <;> cases d <;> rfl
theorem xs_xor (n : Nat) (f g : Nat → Bool) : xs n (fun i => f i ^^ g i) = (xs n f ^^ xs n g) := by
  induction n with
  | zero => rfl
  | succ n ih => simp only [xs]; rw [ih, xor4]
theorem and_xor (c a b : Bool) : (c && (a ^^ b)) = ((c && a) ^^ (c && b)) := by cases a <;> cases b <;> cases c <;> rfl
theorem xor_and (c a b : Bool) : ((a ^^ b) && c) = ((a && c) ^^ (b && c)) := by cases a <;> cases b <;> cases c <;> rfl
theorem xs_and (c : Bool) (n : Nat) (f : Nat → Bool) : xs n (fun i => c && f i) = (c && xs n f) := by
  induction n with
  | zero => cases c <;> rfl
  | succ n ih => simp only [xs]; rw [ih, and_xor]
theorem xs_and_r (c : Bool) (n : Nat) (f : Nat → Bool) : xs n (fun i => f i && c) = (xs n f && c) := by
  rw [show (fun i => f i && c) = (fun i => c && f i) from funext (fun i => Bool.and_comm _ _), xs_and, Bool.and_comm]
theorem xs_swap (n m : Nat) (f : Nat → Nat → Bool) : xs n (fun i => xs m (fun j => f i j)) = xs m (fun j => xs n (fun i => f i j)) := by
  induction n with
  | zero => simp only [xs]; exact (xs_zero m).symm
  | succ n ih => simp only [xs]; rw [ih, ← xs_xor]
theorem xs_one {n k : Nat} {f : Nat → Bool} (hk : k < n) (h : ∀ i, i < n → i ≠ k → f i = false) : xs n f = f k := by
  induction n with
  | zero => omega
  | succ n ih =>
    simp only [xs]
    by_cases e : k = n
    · subst e
      rw [xs_false (fun i hi => h i (by omega) (by omega))]; exact Bool.false_xor _
    · rw [ih (by omega) (fun i hi => h i (by omega)), h n (by omega) (by omega)]; exact Bool.xor_false _
theorem xs_more {n m : Nat} {f : Nat → Bool} (hm : n ≤ m) (h : ∀ i, n ≤ i → f i = false) : xs m f = xs n f := by
  induction m with
  | zero => rw [show n = 0 by omega]
  | succ m ih =>
    by_cases e : n = m + 1
    · rw [e]
    · simp only [xs]; rw [ih (by omega), h m (by omega)]; exact Bool.xor_false _

/-- What two vectors have in common, summed. -/
def dot (a b : V) : Bool := xs 64 (fun i => bt a i && bt b i)
theorem dot_xor_l (a b w : V) : dot (a ^^^ b) w = (dot a w ^^ dot b w) := by
  unfold dot; rw [← xs_xor]; exact xs_congr (fun i _ => by rw [bt_xor, xor_and])
theorem dot_xor_r (a w x : V) : dot a (w ^^^ x) = (dot a w ^^ dot a x) := by
  unfold dot; rw [← xs_xor]; exact xs_congr (fun i _ => by rw [bt_xor, and_xor])
theorem dot_zero_r (a : V) : dot a 0 = false := xs_false (fun i _ => by rw [bt_zero, Bool.and_false])
theorem dot_zero_l (a : V) : dot 0 a = false := xs_false (fun i _ => by rw [bt_zero, Bool.false_and])

/-- The vector with the elements f. -/
def ofB : Nat → (Nat → Bool) → V
  | 0, _ => 0
  | n + 1, f => ofB n f ||| (if f n then 1#64 <<< n else 0)
theorem bt_shl (n k : Nat) : bt (1#64 <<< n) k = decide (k = n ∧ k < 64) := by
  unfold bt
  rw [BitVec.getLsbD_shiftLeft, BitVec.getLsbD_one]
  by_cases h : k < 64 <;> by_cases h2 : k = n <;> simp [h, h2] <;> omega
theorem bt_ofB (n : Nat) (f : Nat → Bool) (k : Nat) (hk : k < 64) : bt (ofB n f) k = (decide (k < n) && f k) := by
  induction n with
  | zero => show bt 0 k = _; rw [bt_zero]; simp
  | succ n ih =>
    show bt (ofB n f ||| (if f n then 1#64 <<< n else 0)) k = _
    have e : ∀ a b : V, bt (a ||| b) k = (bt a k || bt b k) := fun a b => BitVec.getLsbD_or
    rw [e, ih]
    by_cases hf : f n = true
    · rw [if_pos hf, bt_shl]
      by_cases h1 : k = n
      · subst h1; simp [hf, hk]
      · by_cases h2 : k < n
        · simp [h1, h2, show k < n + 1 by omega]
        · simp [h1, h2, show ¬ k < n + 1 by omega]
    · rw [if_neg hf, bt_zero]
      have hf' : f n = false := by cases h : f n; rfl; exact absurd h hf
      by_cases h1 : k = n
      · subst h1; simp [hf']
      · by_cases h2 : k < n
        · simp [h2, show k < n + 1 by omega]
        · simp [h2, show ¬ k < n + 1 by omega]

/-- The sum of those of the first m rows that d chooses. -/
def comb (M : Nat → V) (d : V) : Nat → V
  | 0 => 0
  | n + 1 => comb M d n ^^^ (if bt d n then M n else 0)
theorem bt_comb (M : Nat → V) (d : V) (k : Nat) : ∀ m, bt (comb M d m) k = xs m (fun j => bt d j && bt (M j) k)
  | 0 => bt_zero k
  | m + 1 => by
    show bt (comb M d m ^^^ (if bt d m then M m else 0)) k = _
    rw [bt_xor, bt_comb M d k m]
    simp only [xs]
    congr 1
    cases bt d m
    · rw [Bool.false_and, if_neg (by decide), bt_zero]
    · rw [Bool.true_and, if_pos rfl]
theorem comb_xor (M : Nat → V) (d e : V) (m : Nat) : comb M (d ^^^ e) m = comb M d m ^^^ comb M e m :=
  bt_ext (fun k _ => by
    rw [bt_xor, bt_comb, bt_comb, bt_comb, ← xs_xor]
    exact xs_congr (fun j _ => by rw [bt_xor, xor_and]))
theorem comb_one (M : Nat → V) {j m : Nat} (hj : j < m) (hm : m ≤ 64) : comb M (1#64 <<< j) m = M j :=
  bt_ext (fun k _ => by
    rw [bt_comb, xs_one hj (fun i hi hne => by rw [bt_shl, decide_eq_false (by omega), Bool.false_and]), bt_shl, decide_eq_true (by omega), Bool.true_and])
/-- The product of the matrix of m rows and w. -/
def app (M : Nat → V) (m : Nat) (w : V) : V := ofB m (fun i => dot (M i) w)
theorem bt_app {M : Nat → V} {m : Nat} {w : V} {i : Nat} (hi : i < m) (hm : m ≤ 64) : bt (app M m w) i = dot (M i) w := by
  unfold app; rw [bt_ofB _ _ _ (by omega), decide_eq_true hi, Bool.true_and]
theorem bt_app_ge {M : Nat → V} {m : Nat} {w : V} {i : Nat} (hi : m ≤ i) : bt (app M m w) i = false := by
  by_cases h : i < 64
  · unfold app; rw [bt_ofB _ _ _ h, decide_eq_false (by omega), Bool.false_and]
  · exact bt_ge _ (by omega)
theorem dot_comb (M : Nat → V) (d w : V) (m : Nat) (hm : m ≤ 64) : dot (comb M d m) w = dot d (app M m w) := by
  unfold dot
  rw [xs_congr (fun i _ => by rw [bt_comb, ← xs_and_r]), xs_swap]
  have e : xs 64 (fun i => bt d i && bt (app M m w) i) = xs m (fun i => bt d i && bt (app M m w) i) :=
    xs_more hm (fun i hi => by rw [bt_app_ge hi, Bool.and_false])
  rw [e]
  refine xs_congr (fun j hj => ?_)
  rw [bt_app hj hm]
  unfold dot
  rw [← xs_and]
  exact xs_congr (fun i _ => by rw [Bool.and_assoc])

/-- The first row from j on, of at most so many, that has a bit at c. -/
def fnd (R : Nat → V) (c : Nat) : Nat → Nat → Nat
  | 0, j => j
  | f + 1, j => if bt (R j) c then j else fnd R c f (j + 1)
theorem fnd_le (R : Nat → V) (c : Nat) : ∀ f j, j ≤ fnd R c f j ∧ fnd R c f j ≤ j + f
  | 0, j => ⟨Nat.le_refl _, Nat.le_refl _⟩
  | f + 1, j => by
    unfold fnd
    split
    · exact ⟨Nat.le_refl _, by omega⟩
    · have := fnd_le R c f (j + 1); omega
theorem fnd_no (R : Nat → V) (c : Nat) : ∀ f j i, j ≤ i → i < fnd R c f j → bt (R i) c = false
  | 0, j, i, h1, h2 => by simp only [fnd] at h2; omega
  | f + 1, j, i, h1, h2 => by
    unfold fnd at h2
    split at h2
    · omega
    · by_cases e : i = j
      · subst e; rename_i h; cases hb : bt (R i) c; rfl; exact absurd hb h
      · exact fnd_no R c f (j + 1) i (by omega) h2
theorem fnd_yes (R : Nat → V) (c : Nat) : ∀ f j, fnd R c f j < j + f → bt (R (fnd R c f j)) c = true
  | 0, j, h => by simp only [fnd] at h; omega
  | f + 1, j, h => by
    unfold fnd at h ⊢
    split
    · assumption
    · rename_i hn; rw [if_neg hn] at h; exact fnd_yes R c f (j + 1) (by omega)
/-- It is the one that a search finds. -/
theorem fnd_is {R : Nat → V} {c f j p : Nat} (h1 : j ≤ p) (h2 : p ≤ j + f) (hno : ∀ i, j ≤ i → i < p → bt (R i) c = false) (hy : p < j + f → bt (R p) c = true) : fnd R c f j = p := by
  have a := fnd_le R c f j
  rcases Nat.lt_trichotomy (fnd R c f j) p with h | h | h
  · have := fnd_yes R c f j (by omega)
    rw [hno _ a.1 h] at this; cases this
  · exact h
  · have := fnd_no R c f j p h1 h
    rw [hy (by omega)] at this; cases this
theorem fnd_congr {R S : Nat → V} {c : Nat} : ∀ {f j : Nat}, (∀ i, j ≤ i → R i = S i) → fnd R c f j = fnd S c f j
  | 0, _, _ => rfl
  | f + 1, j, h => by
    unfold fnd
    rw [h j (Nat.le_refl _), fnd_congr (f := f) (j := j + 1) (fun i hi => h i (by omega))]

def swp (R : Nat → V) (n p : Nat) : Nat → V := fun j => if j = n then R p else if j = p then R n else R j
/-- Row n is added to those others whose row in R has a bit at c. -/
def adr (R x : Nat → V) (n c : Nat) : Nat → V := fun j => if j ≠ n ∧ bt (R j) c = true then x j ^^^ x n else x j

/-- A matrix that is being solved, with right sides, and the columns of the rows that are done. -/
structure St where
  R : Nat → V
  r : Nat → V
  P : List Nat
def piv (m c : Nat) (s : St) : Nat := fnd s.R c (m - s.P.length) s.P.length
def made (p c : Nat) (s : St) : St := ⟨adr (swp s.R s.P.length p) (swp s.R s.P.length p) s.P.length c, adr (swp s.R s.P.length p) (swp s.r s.P.length p) s.P.length c, s.P ++ [c]⟩
def step (m c : Nat) (s : St) : St := if piv m c s < m then made (piv m c s) c s else s
def run (m : Nat) (s : St) : Nat → St
  | 0 => s
  | c + 1 => step m c (run m s c)

theorem made_R_n (p c : Nat) (s : St) : (made p c s).R s.P.length = s.R p := by
  show adr _ _ _ _ _ = _
  unfold adr
  rw [if_neg (fun h => h.1 rfl)]
  unfold swp; rw [if_pos rfl]
end Go.Proofs.Ytodiokladojnjaa.BM
