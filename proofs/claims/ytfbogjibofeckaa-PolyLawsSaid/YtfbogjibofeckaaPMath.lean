/- Polynomials over the field of 256 elements: coefficients as functions, lists of them, values. -/
import Derived.Test.YtfbogjibofeckaaFMath
namespace Go.Proofs.Ytfbogjibofeckaa.PM

/-- An element of the field. -/
structure G where
  v : Nat
  lt : v < 256
namespace G
theorem ext' {a b : G} (h : a.v = b.v) : a = b := by cases a; cases b; cases h; rfl
instance : DecidableEq G := fun a b => if h : a.v = b.v then isTrue (ext' h) else isFalse (fun e => h (by rw [e]))
instance : Add G := ⟨fun a b => ⟨a.v ^^^ b.v, FM.xor_lt a.lt b.lt⟩⟩
instance : Mul G := ⟨fun a b => ⟨FM.mul a.v b.v, FM.mul_lt a.lt⟩⟩
def z : G := ⟨0, by decide⟩
def one : G := ⟨1, by decide⟩
instance : Zero G := ⟨z⟩
instance : Inhabited G := ⟨z⟩
theorem add_v (a b : G) : (a + b).v = a.v ^^^ b.v := rfl
theorem mul_v (a b : G) : (a * b).v = FM.mul a.v b.v := rfl
theorem zero_v : (0 : G).v = 0 := rfl
theorem v_zero {a : G} : a.v = 0 ↔ a = 0 := ⟨fun h => ext' h, fun h => by rw [h]; rfl⟩
theorem add_comm (a b : G) : a + b = b + a := ext' (Nat.xor_comm _ _)
theorem add_assoc (a b c : G) : a + b + c = a + (b + c) := ext' (Nat.xor_assoc _ _ _)
theorem add_left_comm (a b c : G) : a + (b + c) = b + (a + c) := by rw [← add_assoc, add_comm a b, add_assoc]
theorem add_zero (a : G) : a + 0 = a := ext' (Nat.xor_zero _)
theorem zero_add (a : G) : 0 + a = a := ext' (Nat.zero_xor _)
theorem add_self (a : G) : a + a = 0 := ext' (Nat.xor_self _)
theorem mul_comm (a b : G) : a * b = b * a := ext' (FM.mul_comm a.lt b.lt)
theorem mul_assoc (a b c : G) : a * b * c = a * (b * c) := ext' (FM.mul_assoc a.lt b.lt c.lt).symm
theorem mul_left_comm (a b c : G) : a * (b * c) = b * (a * c) := by rw [← mul_assoc, mul_comm a b, mul_assoc]
theorem mul_add (a b c : G) : a * (b + c) = a * b + a * c := ext' (FM.mul_xor_r a.lt _ _)
theorem add_mul (a b c : G) : (a + b) * c = a * c + b * c := ext' (FM.mul_xor_l a.lt b.lt _)
theorem mul_zero (a : G) : a * 0 = 0 := ext' (FM.mul_zero a.lt)
theorem zero_mul (a : G) : 0 * a = 0 := ext' (FM.zero_mul a.lt)
theorem mul_one (a : G) : a * one = a := ext' (FM.mul_one a.lt)
theorem one_mul (a : G) : one * a = a := by rw [mul_comm, mul_one]
theorem mul_ne {a b : G} (ha : a ≠ 0) (hb : b ≠ 0) : a * b ≠ 0 := by
  intro h
  have h1 := congrArg G.v h
  rw [mul_v, ← FM.E_lg a.lt (fun e => ha (ext' e)), ← FM.E_lg b.lt (fun e => hb (ext' e)), FM.E_mul] at h1
  exact FM.E_ne _ h1
theorem mul_eq_zero {a b : G} : a * b = 0 ↔ a = 0 ∨ b = 0 := by
  constructor
  · intro h
    by_cases ha : a = 0
    · exact .inl ha
    · by_cases hb : b = 0
      · exact .inr hb
      · exact absurd h (mul_ne ha hb)
  · rintro (rfl | rfl)
    · exact zero_mul _
    · exact mul_zero _
theorem add_eq_zero {a b : G} : a + b = 0 ↔ a = b := by
  constructor
  · intro h
    have : a + b + b = 0 + b := by rw [h]
    rwa [add_assoc, add_self, add_zero, zero_add] at this
  · rintro rfl; exact add_self _
theorem add_cancel (a b : G) : a + (a + b) = b := by rw [← add_assoc, add_self, zero_add]
theorem add4 (a b c d : G) : (a + b) + (c + d) = (a + c) + (b + d) := by
  rw [add_assoc, add_assoc, add_left_comm b c d]
/-- The inverse. -/
def inv (a : G) : G := ⟨FM.invV a.v, FM.invV_lt _⟩
theorem mul_inv {a : G} (h : a ≠ 0) : a * a.inv = one := by
  refine ext' ?_
  have h0 : a.v ≠ 0 := fun e => h (ext' e)
  show FM.mul a.v (FM.invV a.v) = 1
  unfold FM.invV FM.pw
  rw [if_neg h0]
  have e1 := FM.E_lg a.lt h0
  have e2 := FM.E_mul (FM.lg a.v) (FM.lg a.v * 254)
  rw [e1] at e2
  rw [e2, show FM.lg a.v + FM.lg a.v * 254 = 0 + 255 * FM.lg a.v by omega, FM.E_mul255]
  rfl
theorem one_ne : one ≠ (0 : G) := by intro h; have := congrArg G.v h; exact absurd this (by decide)
theorem inv_ne {a : G} (h : a ≠ 0) : a.inv ≠ 0 := by
  intro e; have := mul_inv h; rw [e, mul_zero] at this; exact one_ne this.symm
end G
open G

abbrev Co := Nat → G
/-- Shift down, shift up. -/
def sh (f : Co) : Co := fun k => f (k + 1)
def up (f : Co) : Co := fun k => match k with | 0 => 0 | k + 1 => f k
def addC (f g : Co) : Co := fun k => f k + g k
def smul (c : G) (f : Co) : Co := fun k => c * f k
def zeroC : Co := fun _ => 0
/-- The product. -/
def conv : Co → Co → Co := fun f g k => match k with
  | 0 => f 0 * g 0
  | k + 1 => f 0 * g (k + 1) + conv (sh f) g k
/-- The derivative. -/
def der (f : Co) : Co := fun k => if k % 2 = 0 then f (k + 1) else 0

theorem conv_zero (f g : Co) : conv f g 0 = f 0 * g 0 := by rw [conv]
theorem conv_succ (f g : Co) (k : Nat) : conv f g (k + 1) = f 0 * g (k + 1) + conv (sh f) g k := by rw [conv]
theorem conv_add_l (f g h : Co) : ∀ k, conv (addC f g) h k = conv f h k + conv g h k := by
  intro k
  induction k generalizing f g with
  | zero => rw [conv_zero, conv_zero, conv_zero]; exact add_mul _ _ _
  | succ k ih =>
    rw [conv_succ, conv_succ, conv_succ, show sh (addC f g) = addC (sh f) (sh g) from rfl, ih, show addC f g 0 = f 0 + g 0 from rfl, add_mul, add4]
theorem conv_smul_l (c : G) (f h : Co) : ∀ k, conv (smul c f) h k = c * conv f h k := by
  intro k
  induction k generalizing f with
  | zero => rw [conv_zero, conv_zero]; exact mul_assoc _ _ _
  | succ k ih =>
    rw [conv_succ, conv_succ, show sh (smul c f) = smul c (sh f) from rfl, ih, show smul c f 0 = c * f 0 from rfl, mul_add, mul_assoc]
theorem conv_zeroC_l (h : Co) : ∀ k, conv zeroC h k = 0 := by
  intro k
  induction k with
  | zero => rw [conv_zero]; exact zero_mul _
  | succ k ih => rw [conv_succ, show sh zeroC = zeroC from rfl, ih, show zeroC 0 = 0 from rfl, zero_mul, add_zero]
theorem conv_succ_r (f g : Co) : ∀ k, conv f g (k + 1) = f (k + 1) * g 0 + conv f (sh g) k := by
  intro k
  induction k generalizing f with
  | zero => rw [conv_succ, conv_zero, conv_zero, add_comm]; rfl
  | succ k ih =>
    rw [conv_succ, ih, conv_succ, show sh f (k + 1) = f (k + 1 + 1) from rfl, show sh g (k + 1) = g (k + 1 + 1) from rfl, add_left_comm]
theorem conv_comm (f g : Co) : ∀ k, conv f g k = conv g f k := by
  intro k
  induction k generalizing f g with
  | zero => rw [conv_zero, conv_zero, mul_comm]
  | succ k ih => rw [conv_succ, conv_succ_r g f, ih, mul_comm]
theorem conv_add_r (f g h : Co) (k : Nat) : conv f (addC g h) k = conv f g k + conv f h k := by
  rw [conv_comm, conv_add_l, conv_comm g, conv_comm h]
theorem conv_smul_r (c : G) (f h : Co) (k : Nat) : conv f (smul c h) k = c * conv f h k := by
  rw [conv_comm, conv_smul_l, conv_comm]
theorem sh_conv (f g : Co) : sh (conv f g) = addC (smul (f 0) (sh g)) (conv (sh f) g) := by
  funext k; exact conv_succ f g k
theorem conv_assoc (f g h : Co) : ∀ k, conv (conv f g) h k = conv f (conv g h) k := by
  intro k
  induction k generalizing f g with
  | zero => rw [conv_zero, conv_zero, conv_zero, conv_zero, mul_assoc]
  | succ k ih =>
    rw [conv_succ, sh_conv, conv_add_l, conv_smul_l, ih, conv_succ f, conv_zero, conv_succ g, mul_add, mul_assoc, add_assoc]
theorem conv_up_zero (f g : Co) : conv (up f) g 0 = 0 := by rw [conv_zero]; exact zero_mul _
theorem conv_up_succ (f g : Co) (k : Nat) : conv (up f) g (k + 1) = conv f g k := by
  rw [conv_succ, show sh (up f) = f from rfl, show up f 0 = 0 from rfl, zero_mul, zero_add]
theorem der_addC (f g : Co) (k : Nat) : der (addC f g) k = der f k + der g k := by
  unfold der addC; split
  · rfl
  · rw [add_zero]
theorem der_smul (c : G) (f : Co) (k : Nat) : der (smul c f) k = c * der f k := by
  unfold der smul; split
  · rfl
  · rw [mul_zero]
theorem der_up (h : Co) (k : Nat) : der (up h) k = h k + up (der h) k := by
  cases k with
  | zero => show (if 0 % 2 = 0 then h 0 else 0) = h 0 + 0; rw [add_zero]; rfl
  | succ k =>
    show (if (k + 1) % 2 = 0 then h (k + 1) else 0) = h (k + 1) + (if k % 2 = 0 then h (k + 1) else 0)
    by_cases e : k % 2 = 0
    · rw [if_neg (by omega), if_pos e, add_self]
    · rw [if_pos (by omega), if_neg e, add_zero]
theorem der_eq (f : Co) (k : Nat) : der f k = sh f k + up (der (sh f)) k := by
  have h := der_up (sh f) k
  rw [← h]; unfold der; rfl
theorem der_conv_eq (f g : Co) (k : Nat) : der (conv f g) k = f 0 * der g k + der (up (conv (sh f) g)) k := by
  rw [← der_smul, ← der_addC]
  unfold der addC smul
  split
  · rw [conv_succ]; rfl
  · rfl
theorem der_conv (f g : Co) : ∀ k, der (conv f g) k = conv (der f) g k + conv f (der g) k := by
  intro k
  induction k generalizing f with
  | zero =>
    rw [der_conv_eq, der_up, show up (der (conv (sh f) g)) 0 = 0 from rfl, conv_zero, conv_zero, conv_zero, add_zero, show der f 0 = sh f 0 from rfl, add_comm]
  | succ k ih =>
    have e1 : der f = addC (sh f) (up (der (sh f))) := by funext j; exact der_eq f j
    rw [der_conv_eq, der_up, show up (der (conv (sh f) g)) (k + 1) = der (conv (sh f) g) k from rfl, ih, e1, conv_add_l, conv_up_succ, conv_succ f (der g)]
    generalize f 0 * der g (k + 1) = a, conv (sh f) g (k + 1) = b, conv (der (sh f)) g k = c, conv (sh f) (der g) k = d
    rw [add_left_comm a b, add_left_comm a c, add_assoc b]

/-- From n on all coefficients are 0. -/
def Van (f : Co) (n : Nat) : Prop := ∀ k, n ≤ k → f k = 0
theorem Van.mono {f : Co} {m n : Nat} (h : Van f m) (hm : m ≤ n) : Van f n := fun k hk => h k (by omega)
theorem Van.sh {f : Co} {n : Nat} (h : Van f (n + 1)) : Van (sh f) n := fun k hk => h (k + 1) (by omega)
theorem van_zero {f : Co} (h : Van f 0) : f = zeroC := by funext k; exact h k (Nat.zero_le _)
theorem Van.addC {f g : Co} {n : Nat} (hf : Van f n) (hg : Van g n) : Van (addC f g) n := fun k hk => by
  show f k + g k = 0; rw [hf k hk, hg k hk, add_zero]
theorem Van.smul {f : Co} {n : Nat} (hf : Van f n) (c : G) : Van (smul c f) n := fun k hk => by
  show c * f k = 0; rw [hf k hk, mul_zero]
theorem Van.der {f : Co} {n : Nat} (hf : Van f (n + 1)) : Van (der f) n := fun k hk => by
  unfold PM.der; split
  · exact hf _ (by omega)
  · rfl
/-- The highest coefficient of a product. -/
theorem conv_top (f g : Co) (m n : Nat) (hf : Van f (m + 1)) (hg : Van g (n + 1)) : conv f g (m + n) = f m * g n ∧ Van (conv f g) (m + n + 1) := by
  induction m generalizing f with
  | zero =>
    have e : PM.sh f = zeroC := van_zero hf.sh
    have hc : ∀ k, conv f g k = f 0 * g k := by
      intro k
      cases k with
      | zero => rw [conv_zero]
      | succ k => rw [conv_succ, e, conv_zeroC_l, add_zero]
    rw [Nat.zero_add]
    exact ⟨hc n, fun k hk => by rw [hc, hg k hk, mul_zero]⟩
  | succ m ih =>
    obtain ⟨h1, h2⟩ := ih (PM.sh f) hf.sh
    rw [show m + 1 + n = m + n + 1 by omega]
    refine ⟨by rw [conv_succ, h1, hg _ (by omega), mul_zero, zero_add]; rfl, fun k hk => ?_⟩
    obtain ⟨k, rfl⟩ : ∃ j, k = j + 1 := ⟨k - 1, by omega⟩
    rw [conv_succ, hg _ (by omega), mul_zero, zero_add, h2 _ (by omega)]
theorem conv_van (f g : Co) (m n : Nat) (hf : Van f m) (hg : Van g (n + 1)) : Van (conv f g) (m + n) := by
  cases m with
  | zero => rw [van_zero hf]; exact fun k _ => conv_zeroC_l g k
  | succ m => rw [show m + 1 + n = m + n + 1 by omega]; exact (conv_top f g m n hf hg).2

/-- The value of the first n terms. -/
def evn (n : Nat) (f : Co) (x : G) : G := match n with
  | 0 => 0
  | n + 1 => f 0 + x * evn n (sh f) x
theorem evn_succ (n : Nat) (f : Co) (x : G) : evn (n + 1) f x = f 0 + x * evn n (sh f) x := by rw [evn]
theorem evn_addC (x : G) : ∀ (n : Nat) (f g : Co), evn n (addC f g) x = evn n f x + evn n g x
  | 0, _, _ => (add_zero _).symm
  | n + 1, f, g => by
    rw [evn_succ, evn_succ, evn_succ, show sh (addC f g) = addC (sh f) (sh g) from rfl, evn_addC x n, mul_add, show addC f g 0 = f 0 + g 0 from rfl, add4]
theorem evn_smul (x c : G) : ∀ (n : Nat) (f : Co), evn n (smul c f) x = c * evn n f x
  | 0, _ => (mul_zero _).symm
  | n + 1, f => by
    rw [evn_succ, evn_succ, show sh (smul c f) = smul c (sh f) from rfl, evn_smul x c n, show smul c f 0 = c * f 0 from rfl, mul_add, mul_left_comm]
theorem evn_zeroC (x : G) : ∀ n, evn n zeroC x = 0
  | 0 => rfl
  | n + 1 => by rw [evn_succ, show sh zeroC = zeroC from rfl, evn_zeroC x n, mul_zero, show zeroC 0 = 0 from rfl, add_zero]
theorem evn_van (x : G) : ∀ (n m : Nat) (f : Co), Van f n → n ≤ m → evn m f x = evn n f x
  | 0, m, f, h, _ => by rw [van_zero h, evn_zeroC]; rfl
  | n + 1, m, f, h, hm => by
    obtain ⟨m, rfl⟩ : ∃ j, m = j + 1 := ⟨m - 1, by omega⟩
    rw [evn_succ, evn_succ, evn_van x n m _ h.sh (by omega)]
theorem evn_conv (x : G) (g : Co) (n : Nat) (hg : Van g n) : ∀ (m : Nat) (f : Co), Van f m → evn (m + n) (conv f g) x = evn m f x * evn n g x
  | 0, f, hf => by
    have e : conv f g = zeroC := by funext k; rw [van_zero hf]; exact conv_zeroC_l g k
    rw [e, evn_zeroC, show evn 0 f x = 0 from rfl, zero_mul]
  | m + 1, f, hf => by
    rw [show m + 1 + n = m + n + 1 by omega, evn_succ, sh_conv, evn_addC, evn_smul, evn_conv x g n hg m _ hf.sh, conv_zero, evn_succ m f]
    have h1 := evn_van x n (m + n + 1) g hg (by omega)
    rw [evn_succ] at h1
    rw [← h1]
    generalize evn (m + n) (sh g) x = a at *
    rw [h1, mul_add, mul_left_comm x (f 0), ← mul_assoc x, ← add_assoc, ← mul_add, h1, add_mul]
/-- From the highest term down. -/
theorem evn_drop (x : G) (f : Co) (k : Nat) : ∀ n, evn (n + 1) (fun i => f (k + i)) x = f k + x * evn n (fun i => f (k + 1 + i)) x := by
  intro n
  rw [evn_succ]
  have : sh (fun i => f (k + i)) = fun i => f (k + 1 + i) := by funext i; show f (k + (i + 1)) = f (k + 1 + i); congr 1; omega
  rw [this]; rfl

/-- Element k of a list, 0 behind the end. -/
def el (p : List G) (k : Nat) : G := p.getD k 0
theorem el_ge {p : List G} {k : Nat} (h : p.length ≤ k) : el p k = 0 := by unfold el; simp [List.getD, List.getElem?_eq_none h]
theorem el_lt {p : List G} {k : Nat} (h : k < p.length) : el p k = p[k] := by unfold el; simp [List.getD, List.getElem?_eq_getElem h]
theorem el_nil (k : Nat) : el [] k = 0 := rfl
theorem el_van (p : List G) : Van (el p) p.length := fun _ h => el_ge h
theorem el_set {p : List G} {j : Nat} (h : j < p.length) (c : G) (k : Nat) : el (p.set j c) k = if k = j then c else el p k := by
  by_cases e : k = j
  · subst e; rw [if_pos rfl, el_lt (by simpa using h)]; simp
  · rw [if_neg e]; unfold el
    simp only [List.getD, List.getElem?_set_ne (Ne.symm e)]
theorem el_append {p q : List G} (k : Nat) : el (p ++ q) k = if k < p.length then el p k else el q (k - p.length) := by
  unfold el; simp only [List.getD]
  by_cases e : k < p.length
  · rw [if_pos e, List.getElem?_append_left e]
  · rw [if_neg e, List.getElem?_append_right (by omega)]
theorem el_take (p : List G) (n k : Nat) : el (p.take n) k = if k < n then el p k else 0 := by
  unfold el; simp only [List.getD, List.getElem?_take]
  split <;> rfl
theorem el_drop (p : List G) (n k : Nat) : el (p.drop n) k = el p (n + k) := by
  unfold el; simp only [List.getD, List.getElem?_drop]
theorem el_replicate (n k : Nat) : el (List.replicate n 0) k = 0 := by
  unfold el; simp only [List.getD, List.getElem?_replicate]
  split <;> rfl
theorem ext_el {p q : List G} (hl : p.length = q.length) (h : ∀ k, k < p.length → el p k = el q k) : p = q := by
  refine List.ext_getElem hl (fun k h1 h2 => ?_)
  have := h k h1
  rwa [el_lt h1, el_lt h2] at this

/-- No zero at the end. -/
def Can (p : List G) : Prop := 0 < p.length → el p (p.length - 1) ≠ 0
theorem can_nil : Can [] := fun h => absurd h (by simp)
theorem can_ext {p q : List G} (hp : Can p) (hq : Can q) (h : ∀ k, el p k = el q k) : p = q := by
  have key : ∀ {p q : List G}, Can p → (∀ k, el p k = el q k) → p.length ≤ q.length := by
    intro p q hp h
    rcases Nat.lt_or_ge q.length p.length with hlt | hge
    · exact absurd ((h _).trans (el_ge (by omega))) (hp (by omega))
    · exact hge
  exact ext_el (Nat.le_antisymm (key hp h) (key hq (fun k => (h k).symm))) (fun k _ => h k)
/-- The length is known by the coefficients. -/
theorem can_len {p : List G} (hp : Can p) {n : Nat} (hv : Van (el p) n) : p.length ≤ n := by
  rcases Nat.lt_or_ge n p.length with h | h
  · exact absurd (hv (p.length - 1) (by omega)) (hp (by omega))
  · exact h
/-- The list without the zeros at its end. -/
def trimL (p : List G) : List G := (p.reverse.dropWhile (fun c => decide (c = 0))).reverse
theorem trimL_append_zero (p : List G) : trimL (p ++ [0]) = trimL p := by
  unfold trimL; rw [List.reverse_append]; rfl
theorem trimL_append {p : List G} {c : G} (h : c ≠ 0) : trimL (p ++ [c]) = p ++ [c] := by
  unfold trimL; rw [List.reverse_append]
  simp [h]
theorem trimL_nil : trimL [] = [] := rfl
theorem split_last (p : List G) (h : p ≠ []) : ∃ q c, p = q ++ [c] := ⟨p.dropLast, p.getLast h, (List.dropLast_concat_getLast h).symm⟩
theorem trimL_all (p : List G) : (∀ k, el (trimL p) k = el p k) ∧ Can (trimL p) ∧ (trimL p).length ≤ p.length := by
  induction hn : p.length generalizing p with
  | zero => rw [List.length_eq_zero_iff.1 hn]; exact ⟨fun _ => rfl, can_nil, Nat.le_refl _⟩
  | succ n ih =>
    obtain ⟨q, c, rfl⟩ := split_last p (by intro e; rw [e] at hn; cases hn)
    have hq : q.length = n := by simpa using hn
    by_cases hc : c = 0
    · subst hc
      rw [trimL_append_zero]
      obtain ⟨h1, h2, h3⟩ := ih q hq
      refine ⟨fun k => ?_, h2, by omega⟩
      rw [h1, el_append]
      split
      · rfl
      · rename_i h
        rw [el_ge (by omega)]
        have : ∀ j, el [(0 : G)] j = 0 := fun j => by cases j <;> rfl
        rw [this]
    · rw [trimL_append hc]
      refine ⟨fun _ => rfl, fun _ => ?_, by rw [hn]; exact Nat.le_refl _⟩
      rw [el_append, List.length_append]
      simp only [List.length_cons, List.length_nil]
      rw [if_neg (by omega), show q.length + (0 + 1) - 1 - q.length = 0 by omega]
      exact hc
theorem el_trimL (p : List G) (k : Nat) : el (trimL p) k = el p k := (trimL_all p).1 k
theorem can_trimL (p : List G) : Can (trimL p) := (trimL_all p).2.1
theorem trimL_len (p : List G) : (trimL p).length ≤ p.length := (trimL_all p).2.2
theorem trimL_can {p : List G} (h : Can p) : trimL p = p := can_ext (can_trimL p) h (el_trimL p)
theorem trimL_none (p : List G) (h : ∀ j, el p j = 0) : trimL p = [] := can_ext (can_trimL p) can_nil (fun k => by rw [el_trimL, h]; rfl)
theorem trimL_take (p : List G) : p.take (trimL p).length = trimL p := by
  refine ext_el (by rw [List.length_take]; have := trimL_len p; omega) (fun k hk => ?_)
  rw [List.length_take] at hk
  rw [el_take, if_pos (by omega), el_trimL]
theorem trimL_at (p : List G) (k : Nat) (hne : el p k ≠ 0) (h : ∀ j, k < j → el p j = 0) : (trimL p).length = k + 1 := by
  have h1 : (trimL p).length ≤ k + 1 := can_len (can_trimL p) (fun j hj => by rw [el_trimL]; exact h j (by omega))
  rcases Nat.lt_or_ge k (trimL p).length with h2 | h2
  · omega
  · exact absurd ((el_trimL p k).symm.trans (el_ge h2)) hne
/-- The value at x. -/
def ev (p : List G) (x : G) : G := evn p.length (el p) x
theorem ev_any (p : List G) (x : G) {n : Nat} (h : p.length ≤ n) : evn n (el p) x = ev p x := evn_van x _ _ _ (el_van p) h
theorem ev_can {p q : List G} (h : ∀ k, el p k = el q k) (x : G) : ev p x = ev q x := by
  have e : el p = el q := funext h
  rw [← ev_any p x (Nat.le_max_left _ q.length), ← ev_any q x (Nat.le_max_right p.length _), e]
end Go.Proofs.Ytfbogjibofeckaa.PM
