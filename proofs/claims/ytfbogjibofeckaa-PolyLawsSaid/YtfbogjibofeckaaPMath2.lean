/- Polynomials: products by a monomial, division, divisors, roots. -/
import Derived.Test.YtfbogjibofeckaaPMath
namespace Go.Proofs.Ytfbogjibofeckaa.PM
open G

/-- c times the power k of the variable. -/
def mono (c : G) (k : Nat) : Co := fun j => if j = k then c else 0
theorem mono_succ (c : G) (k : Nat) : mono c (k + 1) = up (mono c k) := by
  funext j
  cases j with
  | zero => rfl
  | succ j => show (if j + 1 = k + 1 then c else 0) = (if j = k then c else 0); simp
theorem conv_mono (c : G) (g : Co) : ∀ (k j : Nat), conv (mono c k) g j = if j < k then 0 else c * g (j - k)
  | 0, j => by
    rw [if_neg (Nat.not_lt_zero _)]
    cases j with
    | zero => rw [conv_zero]; rfl
    | succ j =>
      rw [conv_succ, show sh (mono c 0) = zeroC by funext i; rfl, conv_zeroC_l, add_zero]; rfl
  | k + 1, j => by
    rw [mono_succ]
    cases j with
    | zero => rw [conv_up_zero, if_pos (Nat.succ_pos _)]
    | succ j =>
      rw [conv_up_succ, conv_mono c g k j]
      by_cases h : j < k
      · rw [if_pos h, if_pos (by omega)]
      · rw [if_neg h, if_neg (by omega), show j + 1 - (k + 1) = j - k by omega]
/-- A multiple of g, k places up, joins the product. -/
theorem conv_put (f f' g : Co) (c : G) (k : Nat) (h0 : f k = 0) (h : ∀ i, f' i = if i = k then c else f i) (j : Nat) : conv f' g j = conv f g j + if j < k then 0 else c * g (j - k) := by
  have e : f' = addC f (mono c k) := by
    funext i
    rw [h]; show _ = f i + (if i = k then c else 0)
    by_cases hi : i = k
    · rw [if_pos hi, if_pos hi, hi, h0, zero_add]
    · rw [if_neg hi, if_neg hi, add_zero]
  rw [e, conv_add_l, conv_mono]

theorem top_or (e : Co) : ∀ N, Van e N → e = zeroC ∨ ∃ m, e m ≠ 0 ∧ Van e (m + 1)
  | 0, h => .inl (van_zero h)
  | N + 1, h => by
    by_cases h0 : e N = 0
    · exact top_or e N (fun k hk => by
        by_cases hk' : k = N
        · rw [hk', h0]
        · exact h k (by omega))
    · exact .inr ⟨N, h0, h⟩
/-- A product with less than the factor's degree is 0. -/
theorem conv_small (e g : Co) (n N : Nat) (hg : Van g (n + 1)) (hn : g n ≠ 0) (he : Van e N) (h : Van (conv e g) n) : e = zeroC := by
  rcases top_or e N he with h0 | ⟨m, hm, hv⟩
  · exact h0
  · have h1 := (conv_top e g m n hv hg).1
    rw [h _ (by omega)] at h1
    exact absurd h1.symm (mul_ne hm hn)
/-- There is one quotient and one rest. -/
theorem div_unique (p a a' r r' g : Co) (n N N' : Nat) (hg : Van g (n + 1)) (hn : g n ≠ 0) (ha : Van a N) (ha' : Van a' N') (hr : Van r n) (hr' : Van r' n)
    (h : ∀ k, p k = conv a g k + r k) (h' : ∀ k, p k = conv a' g k + r' k) : a = a' ∧ r = r' := by
  have e : ∀ k, conv (addC a a') g k = r k + r' k := by
    intro k
    rw [conv_add_l]
    have := (h k).symm.trans (h' k)
    have h2 : conv a g k + r k + (conv a' g k + r k) = conv a' g k + r' k + (conv a' g k + r k) := by rw [this]
    rw [add4, add_self, add_zero, add4, add_self, zero_add] at h2
    rw [h2, add_comm]
  have hz := conv_small (addC a a') g n (N + N') hg hn ((ha.mono (by omega)).addC (ha'.mono (by omega))) (fun k hk => by rw [e, hr k hk, hr' k hk, add_zero])
  have ea : ∀ k, a k = a' k := fun k => add_eq_zero.1 (congrFun hz k)
  refine ⟨funext ea, funext fun k => add_eq_zero.1 ?_⟩
  rw [← e, hz, conv_zeroC_l]

/-- g divides p. -/
def Dv (g p : Co) : Prop := ∃ d N, Van d N ∧ ∀ k, p k = conv d g k
theorem Dv.zero (g : Co) : Dv g zeroC := ⟨zeroC, 0, fun _ _ => rfl, fun k => (conv_zeroC_l g k).symm⟩
def oneC : Co := mono one 0
theorem conv_oneC (g : Co) (k : Nat) : conv oneC g k = g k := by
  unfold oneC; rw [conv_mono, if_neg (Nat.not_lt_zero _), one_mul, Nat.sub_zero]
theorem Dv.refl (g : Co) : Dv g g := ⟨oneC, 1, fun k hk => by show (if k = 0 then one else 0) = 0; rw [if_neg (by omega)], fun k => (conv_oneC g k).symm⟩
/-- A divisor of the divisor and of the rest divides. -/
theorem Dv.step {g p q r a : Co} {N : Nat} (hq : Dv g q) (hr : Dv g r) (ha : Van a N) (h : ∀ k, p k = conv a q k + r k) : Dv g p := by
  obtain ⟨d, D, hd, hqd⟩ := hq
  obtain ⟨s, S, hs, hrs⟩ := hr
  refine ⟨addC (conv a d) s, N + (D + 1) + S, Van.addC ((conv_van a d N D ha (hd.mono (by omega))).mono (by omega)) (hs.mono (by omega)), fun k => ?_⟩
  rw [h, hrs, conv_add_l, conv_assoc, show q = conv d g from funext hqd]
/-- The divisor times an element that is not 0. -/
theorem Dv.scale {g p : Co} (h : Dv g p) {c : G} (hc : c ≠ 0) (g' : Co) (hg : ∀ k, g' k = c * g k) : Dv g' p := by
  obtain ⟨d, D, hd, hp⟩ := h
  refine ⟨smul c.inv d, D, hd.smul _, fun k => ?_⟩
  rw [show g' = smul c g from funext hg, conv_smul_l, conv_smul_r, ← mul_assoc, mul_comm c.inv, mul_inv hc, one_mul, hp]
theorem Dv.of_zero {g p : Co} (h : Dv g p) (hg : ∀ k, g k = 0) (k : Nat) : p k = 0 := by
  obtain ⟨d, D, _, hp⟩ := h
  rw [hp, show g = zeroC from funext hg, conv_comm, conv_zeroC_l]
/-- What is divided leaves no rest. -/
theorem Dv.rest {g p a r : Co} {n N : Nat} (h : Dv g p) (hg : Van g (n + 1)) (hn : g n ≠ 0) (ha : Van a N) (hr : Van r n) (he : ∀ k, p k = conv a g k + r k) : ∀ k, r k = 0 := by
  obtain ⟨d, D, hd, hp⟩ := h
  have := (div_unique p a d r zeroC g n N D hg hn ha hd hr (fun _ _ => rfl) he (fun k => by rw [hp]; exact (add_zero _).symm)).2
  intro k; rw [this]; rfl

/-- The polynomial x + r. -/
def lin (r : G) : Co := fun k => if k = 0 then r else if k = 1 then one else 0
theorem conv_lin (r : G) (f : Co) (k : Nat) : conv (lin r) f k = r * f k + up f k := by
  cases k with
  | zero => rw [conv_zero]; show r * f 0 = r * f 0 + 0; rw [add_zero]
  | succ k =>
    rw [conv_succ]
    have : sh (lin r) = oneC := by
      funext j
      show (if j + 1 = 0 then r else if j + 1 = 1 then one else 0) = (if j = 0 then one else 0)
      rw [if_neg (by omega)]
      by_cases h : j = 0
      · rw [if_pos h, if_pos (by omega)]
      · rw [if_neg h, if_neg (by omega)]
    rw [this, conv_oneC]; rfl
theorem lin_van (r : G) : Van (lin r) 2 := fun k hk => by unfold lin; rw [if_neg (by omega), if_neg (by omega)]
theorem evn_lin (r x : G) : evn 2 (lin r) x = r + x := by
  rw [evn_succ, evn_succ, show evn 0 (sh (sh (lin r))) x = 0 from rfl, mul_zero, add_zero]
  show r + x * one = r + x
  rw [mul_one]
/-- What is left of a polynomial when a root is taken out. -/
def deflate (f : Co) (n : Nat) (r : G) : Co := fun k => evn (n - k) (fun i => f (k + 1 + i)) r
theorem deflate_van (f : Co) (n : Nat) (r : G) : Van (deflate f n r) n := fun k hk => by
  show evn (n - k) _ r = 0
  rw [show n - k = 0 by omega]; rfl
theorem deflate_eq (f : Co) (n : Nat) (r : G) (hf : Van f (n + 1)) (hr : evn (n + 1) f r = 0) (k : Nat) : f k = conv (lin r) (deflate f n r) k := by
  rw [conv_lin]
  have step : ∀ j, evn (n - j) (fun i => f (j + 1 + i)) r = f (j + 1) + r * evn (n - (j + 1)) (fun i => f (j + 1 + 1 + i)) r := by
    intro j
    rcases Nat.lt_or_ge j n with h | h
    · have e := evn_drop r f (j + 1) (n - (j + 1))
      rw [show n - (j + 1) + 1 = n - j by omega] at e
      exact e
    · rw [show n - j = 0 by omega, show n - (j + 1) = 0 by omega, hf _ (by omega)]
      show (0 : G) = 0 + r * 0
      rw [mul_zero, add_zero]
  cases k with
  | zero =>
    have h0 : evn (n + 1) f r = f 0 + r * evn n (sh f) r := evn_succ _ _ _
    rw [hr] at h0
    show f 0 = r * evn (n - 0) (fun i => f (0 + 1 + i)) r + 0
    rw [add_zero, Nat.sub_zero, show (fun i => f (0 + 1 + i)) = sh f by funext i; show f (0 + 1 + i) = f (i + 1); congr 1; omega]
    exact add_eq_zero.1 h0.symm
  | succ k =>
    show f (k + 1) = r * evn (n - (k + 1)) (fun i => f (k + 1 + 1 + i)) r + evn (n - k) (fun i => f (k + 1 + i)) r
    rw [step k, add_left_comm, add_self, add_zero]
theorem deflate_top (f : Co) (n : Nat) (r : G) : deflate f (n + 1) r n = f (n + 1) := by
  show evn (n + 1 - n) (fun i => f (n + 1 + i)) r = _
  rw [show n + 1 - n = 0 + 1 by omega, evn_drop]
  show f (n + 1) + r * 0 = _
  rw [mul_zero, add_zero]
/-- A polynomial of degree n has at most n roots. -/
theorem roots_le : ∀ (n : Nat) (f : Co), Van f (n + 1) → f n ≠ 0 → ∀ xs : List G, xs.Nodup → (∀ x ∈ xs, evn (n + 1) f x = 0) → xs.length ≤ n
  | 0, f, hf, hn, xs, _, hx => by
    cases xs with
    | nil => exact Nat.le_refl _
    | cons x xs =>
      have h := hx x (by simp)
      rw [evn_succ, show evn 0 (sh f) x = 0 from rfl, mul_zero, add_zero] at h
      exact absurd h hn
  | n + 1, f, hf, hn, xs, hd, hx => by
    cases xs with
    | nil => exact Nat.zero_le _
    | cons r xs =>
      obtain ⟨hr, hd'⟩ := List.nodup_cons.1 hd
      have hroot := hx r (by simp)
      have hdv := deflate_van f (n + 1) r
      have hc := deflate_eq f (n + 1) r hf hroot
      have := roots_le n (deflate f (n + 1) r) hdv (by rw [deflate_top f n r]; exact hn) xs hd' (fun x hxs => by
        have h1 := hx x (by simp [hxs])
        have h2 := evn_conv x (deflate f (n + 1) r) (n + 1) hdv 2 (lin r) (lin_van r)
        rw [show f = conv (lin r) (deflate f (n + 1) r) from funext hc] at h1
        rw [evn_van x (n + 1 + 1) (2 + (n + 1)) _ (by rw [← show f = conv (lin r) (deflate f (n + 1) r) from funext hc]; exact hf) (by omega), h1, evn_lin] at h2
        rcases mul_eq_zero.1 h2.symm with h | h
        · exact absurd (add_eq_zero.1 h) (fun e => hr (by rw [e]; exact hxs))
        · exact h)
      simp only [List.length_cons]
      omega
end Go.Proofs.Ytfbogjibofeckaa.PM
