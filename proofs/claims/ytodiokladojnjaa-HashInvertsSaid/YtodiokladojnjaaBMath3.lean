/- What the solutions, the kernel, the inverse and the rank are. -/
import Derived.Test.YtodiokladojnjaaBMath2
import Derived.Test.YtodiokladojnjaaBMade
namespace Go.Proofs.Ytodiokladojnjaa.B
open BM (bt xs dot St Inv pe)

theorem el_pe (P : List Nat) (i : Nat) : el P i = pe P i := rfl
theorem sv_inv (C : Nat) (R : List V) (r : Nat → V) : Inv R.length C (sv C R r) := BM.inv_run _ _ _ C
theorem sv_lin (C : Nat) (R : List V) (r : Nat → V) (φ ψ : V → Bool) (hφ : ∀ a b, φ (a ^^^ b) = (φ a ^^ φ b)) (hψ : ∀ a b, ψ (a ^^^ b) = (ψ a ^^ ψ b)) :
    (∀ j, j < R.length → φ ((sv C R r).R j) = ψ ((sv C R r).r j)) ↔ (∀ j, j < R.length → φ (el R j) = ψ (r j)) := BM.lin_run _ _ _ φ ψ hφ hψ C
theorem no_lin : ∀ a b : V, (fun _ : V => false) (a ^^^ b) = ((fun _ : V => false) a ^^ (fun _ : V => false) b) := fun _ _ => rfl

theorem bt_or (a b : V) (k : Nat) : bt (a ||| b) k = (bt a k || bt b k) := BitVec.getLsbD_or
theorem bt_b1shl (t : Bool) (p k : Nat) : bt (b1 t <<< p) k = (t && decide (k = p ∧ k < 64)) := by
  rw [b1_shl]
  cases t
  · rw [if_neg (by decide), BM.bt_zero, Bool.false_and]
  · rw [if_pos rfl, BM.bt_shl, Bool.true_and]
theorem dot_unit (a : V) {b : Nat} (hb : b < 64) : dot a (1#64 <<< b) = bt a b := by
  unfold dot
  rw [BM.xs_one hb (fun i _ hne => by rw [BM.bt_shl, decide_eq_false (by omega), Bool.and_false]), BM.bt_shl, decide_eq_true (by omega), Bool.and_true]
theorem dot_b1 (a : V) (t : Bool) {b : Nat} (hb : b < 64) : dot a (b1 t <<< b) = (t && bt a b) := by
  rw [b1_shl]
  cases t
  · rw [if_neg (by decide), BM.dot_zero_r, Bool.false_and]
  · rw [if_pos rfl, dot_unit a hb, Bool.true_and]
theorem or_xor {a b : V} (h : ∀ k, bt a k = true → bt b k = false) : a ||| b = a ^^^ b :=
  BM.bt_ext (fun k _ => by
    rw [bt_or, BM.bt_xor]
    cases ha : bt a k with
    | false => cases bt b k <;> rfl
    | true => rw [h k ha]; rfl)

theorem bal_bits (R : Nat → V) (P : Nat → Nat) (c : Nat) : ∀ k b, bt (bal R P c k) b = true → b = c ∨ ∃ i, i < k ∧ P i = b ∧ bt (R i) c = true
  | 0, b, h => by
    have : bt (1#64 <<< c) b = true := h
    rw [BM.bt_shl, decide_eq_true_eq] at this
    exact .inl this.1
  | k + 1, b, h => by
    have h' : bt (bal R P c k ||| b1 (bt (R k) c) <<< P k) b = true := h
    rw [bt_or, Bool.or_eq_true] at h'
    rcases h' with h' | h'
    · rcases bal_bits R P c k b h' with h'' | ⟨i, h1, h2, h3⟩
      · exact .inl h''
      · exact .inr ⟨i, by omega, h2, h3⟩
    · rw [bt_b1shl, Bool.and_eq_true, decide_eq_true_eq] at h'
      exact .inr ⟨k, Nat.lt_succ_self k, h'.2.1.symm, h'.1⟩
theorem bal_top (R : Nat → V) (P : Nat → Nat) (c : Nat) (hc : c < 64) : ∀ k, bt (bal R P c k) c = true
  | 0 => by
    show bt (1#64 <<< c) c = true
    rw [BM.bt_shl]; exact decide_eq_true ⟨rfl, hc⟩
  | k + 1 => by
    show bt (bal R P c k ||| b1 (bt (R k) c) <<< P k) c = true
    rw [bt_or, bal_top R P c hc k]; rfl
theorem bal_dot (R : Nat → V) (P : Nat → Nat) (c : Nat) (hc : c < 64) (a : V) : ∀ k, (∀ i, i < k → P i < 64) → (∀ i, i < k → P i ≠ c) → (∀ i j, i < j → j < k → P i ≠ P j) →
    dot a (bal R P c k) = (bt a c ^^ xs k (fun i => bt (R i) c && bt a (P i)))
  | 0, _, _, _ => by
    show dot a (1#64 <<< c) = (bt a c ^^ false)
    rw [dot_unit a hc, Bool.xor_false]
  | k + 1, h1, h2, h3 => by
    show dot a (bal R P c k ||| b1 (bt (R k) c) <<< P k) = _
    rw [or_xor (fun b hb => by
      rw [bt_b1shl, Bool.and_eq_false_iff]
      right
      refine decide_eq_false ?_
      rintro ⟨e, _⟩
      rcases bal_bits R P c k b hb with h | ⟨i, q1, q2, _⟩
      · exact h2 k (Nat.lt_succ_self k) (e.symm.trans h)
      · exact h3 i k q1 (Nat.lt_succ_self k) (q2.trans e)), BM.dot_xor_r, bal_dot R P c hc a k (fun i hi => h1 i (by omega)) (fun i hi => h2 i (by omega)) (fun i j hi hj => h3 i j hi (by omega)), dot_b1 a _ (h1 k (Nat.lt_succ_self k))]
    simp only [xs]
    rw [Bool.xor_assoc]
theorem lst_bits (r : Nat → Bool) (P : Nat → Nat) : ∀ k b, bt (lst (fun i => b1 (r i)) P k) b = true → ∃ i, i < k ∧ P i = b ∧ r i = true
  | 0, b, h => by
    have : bt (0 : V) b = true := h
    rw [BM.bt_zero] at this; cases this
  | k + 1, b, h => by
    have h' : bt (lst (fun i => b1 (r i)) P k ||| b1 (r k) <<< P k) b = true := h
    rw [bt_or, Bool.or_eq_true] at h'
    rcases h' with h' | h'
    · obtain ⟨i, h1, h2, h3⟩ := lst_bits r P k b h'
      exact ⟨i, by omega, h2, h3⟩
    · rw [bt_b1shl, Bool.and_eq_true, decide_eq_true_eq] at h'
      exact ⟨k, Nat.lt_succ_self k, h'.2.1.symm, h'.1⟩
theorem lst_dot (r : Nat → Bool) (P : Nat → Nat) (a : V) : ∀ k, (∀ i, i < k → P i < 64) → (∀ i j, i < j → j < k → P i ≠ P j) →
    dot a (lst (fun i => b1 (r i)) P k) = xs k (fun i => r i && bt a (P i))
  | 0, _, _ => BM.dot_zero_r a
  | k + 1, h1, h3 => by
    show dot a (lst (fun i => b1 (r i)) P k ||| b1 (r k) <<< P k) = _
    rw [or_xor (fun b hb => by
      rw [bt_b1shl, Bool.and_eq_false_iff]
      right
      refine decide_eq_false ?_
      rintro ⟨e, _⟩
      obtain ⟨i, q1, q2, _⟩ := lst_bits r P k b hb
      exact h3 i k q1 (Nat.lt_succ_self k) (q2.trans e)), BM.dot_xor_r, lst_dot r P a k (fun i hi => h1 i (by omega)) (fun i j hi hj => h3 i j hi (by omega)), dot_b1 a _ (h1 k (Nat.lt_succ_self k))]
    simp only [xs]

/-- The highest bit. -/
theorem top_bit (d : V) (n : Nat) (h : ∀ b, n ≤ b → bt d b = false) : d = 0 ∨ ∃ t, t < n ∧ bt d t = true ∧ ∀ b, t < b → bt d b = false := by
  induction n with
  | zero => exact .inl (BM.bt_ext (fun k _ => by rw [h k (Nat.zero_le _), BM.bt_zero]))
  | succ n ih =>
    cases hb : bt d n with
    | true => exact .inr ⟨n, Nat.lt_succ_self n, hb, fun b hb => h b hb⟩
    | false =>
      rcases ih (fun b hbn => by
        by_cases e : b = n
        · rw [e]; exact hb
        · exact h b (by omega)) with h0 | ⟨t, h1, h2, h3⟩
      · exact .inl h0
      · exact .inr ⟨t, by omega, h2, h3⟩
theorem lt_top {x y : V} (t : Nat) (hx : bt x t = false) (hy : bt y t = true) (h : ∀ b, t < b → bt x b = bt y b) : x.toNat < y.toNat := by
  have hq : x.toNat / 2 ^ (t + 1) = y.toNat / 2 ^ (t + 1) := Nat.eq_of_testBit_eq (fun j => by
    rw [Nat.testBit_div_two_pow, Nat.testBit_div_two_pow, BM.bt_nat, BM.bt_nat]
    exact h _ (by omega))
  rw [← BM.bt_nat, Nat.testBit_eq_decide_div_mod_eq, decide_eq_false_iff_not] at hx
  rw [← BM.bt_nat, Nat.testBit_eq_decide_div_mod_eq, decide_eq_true_eq] at hy
  rw [Nat.pow_succ, ← Nat.div_div_eq_div_mul, ← Nat.div_div_eq_div_mul] at hq
  rcases Nat.lt_or_ge x.toNat y.toNat with h1 | h1
  · exact h1
  · have := Nat.div_le_div_right (c := 2 ^ t) h1
    omega

/-- Right sides of 0 and 1 stay so. -/
theorem r_bits (m : Nat) (R : Nat → V) (q : Nat → Bool) : ∀ C, ∃ t : Nat → Bool, (BM.run m ⟨R, fun j => b1 (q j), []⟩ C).r = fun j => b1 (t j)
  | 0 => ⟨q, rfl⟩
  | C + 1 => by
    obtain ⟨t, ht⟩ := r_bits m R q C
    show ∃ t' : Nat → Bool, (BM.step m C _).r = fun j => b1 (t' j)
    unfold BM.step
    split
    · rename_i hp
      obtain ⟨n, hn⟩ : ∃ n, (BM.run m ⟨R, fun j => b1 (q j), []⟩ C).P.length = n := ⟨_, rfl⟩
      obtain ⟨p, hpe⟩ : ∃ p, BM.piv m C (BM.run m ⟨R, fun j => b1 (q j), []⟩ C) = p := ⟨_, rfl⟩
      unfold BM.made
      simp only
      rw [ht, hn, hpe]
      have hs : BM.swp (fun j => b1 (t j)) n p = fun j => b1 (if j = n then t p else if j = p then t n else t j) := by
        funext j
        unfold BM.swp
        by_cases h1 : j = n
        · rw [if_pos h1, if_pos h1]
        · rw [if_neg h1, if_neg h1]
          by_cases h2 : j = p
          · rw [if_pos h2, if_pos h2]
          · rw [if_neg h2, if_neg h2]
      obtain ⟨u, hu⟩ : ∃ u : Nat → Bool, BM.swp (fun j => b1 (t j)) n p = fun j => b1 (u j) := ⟨_, hs⟩
      rw [hu]
      refine ⟨fun j => if j ≠ n ∧ bt (BM.swp (BM.run m ⟨R, fun j => b1 (q j), []⟩ C).R n p j) C = true then u j ^^ u n else u j, ?_⟩
      funext j
      unfold BM.adr
      by_cases h1 : j ≠ n ∧ bt (BM.swp (BM.run m ⟨R, fun j => b1 (q j), []⟩ C).R n p j) C = true
      · simp only [if_pos h1]
        cases u j <;> cases u n <;> rfl
      · simp only [if_neg h1]
    · exact ⟨t, ht⟩
theorem bt_b1 (t : Bool) : bt (b1 t) 0 = t := by cases t <;> rfl
theorem b1_one (t : Bool) : ((b1 t).toNat = 1) ↔ t = true := by cases t <;> simp [b1]
theorem b1_val (t : Bool) : ((b1 t).toNat = 1) ↔ bt (b1 t) 0 = true := by rw [bt_b1]; exact b1_one t

section
variable {C : Nat} {R : List V}
/-- The vector for a column that is no pivot leads to 0. -/
theorem bal_zero (hC : C ≤ 64) (r : Nat → V) {c : Nat} (hc : c < C) (hp : (sv C R r).P.contains c = false) : ∀ j, j < R.length → dot ((sv C R r).R j) (balS (sv C R r) c) = false := by
  have h := sv_inv C R r
  generalize sv C R r = s at h hp ⊢
  have hne : ∀ i, i < s.P.length → pe s.P i ≠ c := fun i hi e => by
    have hm : c ∈ s.P := by rw [← e]; exact BM.pe_mem hi
    rw [List.contains_eq_mem, decide_eq_false_iff_not] at hp
    exact hp hm
  intro j hj
  unfold balS
  rw [bal_dot s.R (el s.P) c (by omega) (s.R j) s.P.length (fun i hi => by have := h.lt i hi; rw [el_pe]; omega) hne (fun i j' hi hj' => by rw [el_pe, el_pe]; exact Nat.ne_of_lt (h.asc i j' hi hj'))]
  by_cases hjn : j < s.P.length
  · rw [BM.xs_one hjn (fun i hi hne => by rw [el_pe, h.off i hi j hj (Ne.symm hne), Bool.and_false]), el_pe, h.one j hjn, Bool.and_true]
    cases bt (s.R j) c <;> rfl
  · rw [h.rest j (by omega) hj c hc, BM.xs_false (fun i hi => by rw [el_pe, h.off i hi j hj (by omega), Bool.and_false])]
    rfl
theorem bal_fit (r : Nat → V) {c : Nat} (hc : c < C) : ∀ b, C ≤ b → bt (balS (sv C R r) c) b = false := by
  have h := sv_inv C R r
  generalize sv C R r = s at h ⊢
  intro b hb
  cases hbb : bt (balS s c) b with
  | false => rfl
  | true =>
    rcases bal_bits _ _ _ _ _ hbb with e | ⟨i, h1, h2, _⟩
    · omega
    · have := h.lt i h1
      rw [el_pe] at h2
      omega
/-- Its bits beyond the column are 0. -/
theorem bal_high (r : Nat → V) {c : Nat} : ∀ b, c < b → bt (balS (sv C R r) c) b = false := by
  have h := sv_inv C R r
  generalize sv C R r = s at h ⊢
  intro b hb
  cases hbb : bt (balS s c) b with
  | false => rfl
  | true =>
    rcases bal_bits _ _ _ _ _ hbb with e | ⟨i, h1, h2, h3⟩
    · omega
    · rw [el_pe] at h2
      have := h.low i h1 c (by omega)
      rw [this] at h3; cases h3
theorem bal_other (r : Nat → V) {c b : Nat} (hb : (sv C R r).P.contains b = false) (hne : b ≠ c) : bt (balS (sv C R r) c) b = false := by
  generalize sv C R r = s at hb ⊢
  cases hbb : bt (balS s c) b with
  | false => rfl
  | true =>
    rcases bal_bits _ _ _ _ _ hbb with e | ⟨i, h1, h2, _⟩
    · exact absurd e hne
    · have hm : b ∈ s.P := by rw [← h2]; exact BM.pe_mem h1
      rw [List.contains_eq_mem, decide_eq_false_iff_not] at hb
      exact absurd hm hb
/-- A vector that leads to 0 and has no bit in a column without a pivot is 0. -/
theorem ker_zero (hC : C ≤ 64) (r : Nat → V) {d : V} (hd : ∀ j, j < R.length → dot ((sv C R r).R j) d = false) (hf : ∀ b, C ≤ b → bt d b = false) (hn : ∀ c, c < C → (sv C R r).P.contains c = false → bt d c = false) : d = 0 := by
  have h := sv_inv C R r
  generalize sv C R r = s at h hd hn
  refine BM.bt_ext (fun b _ => ?_)
  rw [BM.bt_zero]
  by_cases hbC : b < C
  · cases hp : s.P.contains b with
    | false => exact hn b hbC hp
    | true =>
      rw [List.contains_eq_mem, decide_eq_true_eq] at hp
      obtain ⟨i, hi, e⟩ := BM.mem_pe hp
      have := hd i (Nat.lt_of_lt_of_le hi h.len)
      unfold dot at this
      rw [BM.xs_one (k := b) (by omega) (fun b' _ hne => by
        by_cases h1 : b' < C
        · cases hp' : s.P.contains b' with
          | false => rw [hn b' h1 hp', Bool.and_false]
          | true =>
            rw [List.contains_eq_mem, decide_eq_true_eq] at hp'
            obtain ⟨l, hl, e'⟩ := BM.mem_pe hp'
            have hli : i ≠ l := by intro e2; subst e2; exact hne (e'.symm.trans e)
            rw [← e', h.off l hl i (Nat.lt_of_lt_of_le hi h.len) hli, Bool.false_and]
        · rw [hf b' (by omega), Bool.and_false]), ← e, h.one i hi, Bool.true_and] at this
      rw [← e]; exact this
  · exact hf b (by omega)
/-- The highest bit of a vector that leads to 0 is no pivot. -/
theorem ker_top (hC : C ≤ 64) (r : Nat → V) {d : V} (hd : ∀ j, j < R.length → dot ((sv C R r).R j) d = false) {t : Nat} (ht : t < C) (h1 : bt d t = true) (h2 : ∀ b, t < b → bt d b = false) : (sv C R r).P.contains t = false := by
  have h := sv_inv C R r
  generalize sv C R r = s at h hd ⊢
  cases hp : s.P.contains t with
  | false => rfl
  | true =>
    rw [List.contains_eq_mem, decide_eq_true_eq] at hp
    obtain ⟨i, hi, e⟩ := BM.mem_pe hp
    have := hd i (Nat.lt_of_lt_of_le hi h.len)
    unfold dot at this
    rw [BM.xs_one (k := t) (by omega) (fun b' _ hne => by
      by_cases h3 : b' < t
      · rw [h.low i hi b' (by omega), Bool.false_and]
      · rw [h2 b' (by omega), Bool.and_false]), ← e, h.one i hi, Bool.true_and, e, h1] at this
    cases this
end
end Go.Proofs.Ytodiokladojnjaa.B
