/- What elimination keeps. -/
import Derived.Test.YtodiokladojnjaaBMath
namespace Go.Proofs.Ytodiokladojnjaa.BM

/-- Pivot i of a list. -/
def pe (P : List Nat) (i : Nat) : Nat := (P[i]?).getD 0
theorem pe_app_lt {P : List Nat} {c i : Nat} (h : i < P.length) : pe (P ++ [c]) i = pe P i := by
  unfold pe; rw [List.getElem?_append_left h]
theorem pe_app_end (P : List Nat) (c : Nat) : pe (P ++ [c]) P.length = c := by
  unfold pe; rw [List.getElem?_append_right (Nat.le_refl _), Nat.sub_self]; rfl
theorem pe_mem {P : List Nat} {i : Nat} (h : i < P.length) : pe P i ∈ P := by
  unfold pe; rw [List.getElem?_eq_getElem h]; exact List.getElem_mem h
theorem mem_pe {P : List Nat} {c : Nat} (h : c ∈ P) : ∃ i, i < P.length ∧ pe P i = c := by
  obtain ⟨i, hi, e⟩ := List.getElem_of_mem h
  exact ⟨i, hi, by unfold pe; rw [List.getElem?_eq_getElem hi]; exact e⟩

/-- How many of the first C columns are no pivots. -/
def cnt (P : List Nat) : Nat → Nat
  | 0 => 0
  | c + 1 => cnt P c + if P.contains c then 0 else 1
theorem cnt_congr {P Q : List Nat} : ∀ {C : Nat}, (∀ c, c < C → P.contains c = Q.contains c) → cnt P C = cnt Q C
  | 0, _ => rfl
  | C + 1, h => by
    unfold cnt
    rw [cnt_congr (C := C) (fun c hc => h c (by omega)), h C (by omega)]

structure Inv (m C : Nat) (s : St) : Prop where
  len : s.P.length ≤ m
  lt : ∀ i, i < s.P.length → pe s.P i < C
  asc : ∀ i j, i < j → j < s.P.length → pe s.P i < pe s.P j
  one : ∀ i, i < s.P.length → bt (s.R i) (pe s.P i) = true
  off : ∀ i, i < s.P.length → ∀ j, j < m → j ≠ i → bt (s.R j) (pe s.P i) = false
  low : ∀ i, i < s.P.length → ∀ c, c < pe s.P i → bt (s.R i) c = false
  rest : ∀ j, s.P.length ≤ j → j < m → ∀ c, c < C → bt (s.R j) c = false
  count : cnt s.P C + s.P.length = C

theorem inv_start (m : Nat) (R r : Nat → V) : Inv m 0 ⟨R, r, []⟩ :=
  ⟨Nat.zero_le _, fun i hi => absurd hi (Nat.not_lt_zero i), fun i j _ hj => absurd hj (Nat.not_lt_zero j), fun i hi => absurd hi (Nat.not_lt_zero i), fun i hi => absurd hi (Nat.not_lt_zero i), fun i hi => absurd hi (Nat.not_lt_zero i), fun j _ _ c hc => absurd hc (Nat.not_lt_zero c), rfl⟩

theorem not_contains {P : List Nat} {C : Nat} (h : ∀ i, i < P.length → pe P i < C) {c : Nat} (hc : C ≤ c) : P.contains c = false := by
  cases e : P.contains c with
  | false => rfl
  | true =>
    rw [List.contains_eq_mem, decide_eq_true_eq] at e
    obtain ⟨i, hi, e⟩ := mem_pe e
    have := h i hi
    omega

theorem inv_step {m C : Nat} {s : St} (h : Inv m C s) : Inv m (C + 1) (step m C s) := by
  have hnc := not_contains h.lt (Nat.le_refl C)
  unfold step
  by_cases hp : piv m C s < m
  · rw [if_pos hp]
    have hle := fnd_le s.R C (m - s.P.length) s.P.length
    have hyes : bt (s.R (piv m C s)) C = true := fnd_yes s.R C (m - s.P.length) s.P.length (by have := h.len; unfold piv at hp; omega)
    have hge : s.P.length ≤ piv m C s := hle.1
    obtain ⟨p, hpe⟩ : ∃ p, piv m C s = p := ⟨_, rfl⟩
    rw [hpe] at hp hyes hge ⊢
    clear hle hpe
    obtain ⟨n, hn⟩ : ∃ n, s.P.length = n := ⟨_, rfl⟩
    have hl : (s.P ++ [C]).length = n + 1 := by rw [List.length_append, hn]; rfl
    rw [hn] at hge
    have hpl : ∀ i, i < n → pe (s.P ++ [C]) i = pe s.P i := fun i hi => pe_app_lt (by omega)
    have hpn : pe (s.P ++ [C]) n = C := by rw [← hn]; exact pe_app_end _ _
    -- the rows that have been exchanged
    have hsw : ∀ j, j < n → swp s.R n p j = s.R j := fun j hj => by unfold swp; rw [if_neg (by omega), if_neg (by omega)]
    have hswn : swp s.R n p n = s.R p := by unfold swp; rw [if_pos rfl]
    have hlow : ∀ j, n ≤ j → j < m → ∀ c, c < C → bt (swp s.R n p j) c = false := fun j h1 h2 c hc => by
      unfold swp
      split
      · exact h.rest p (by omega) hp c hc
      · split
        · exact h.rest n (by omega) (by omega) c hc
        · exact h.rest j (by omega) h2 c hc
    have hadr : ∀ j k, bt (adr (swp s.R n p) (swp s.R n p) n C j) k = (bt (swp s.R n p j) k ^^ ((decide (j ≠ n) && bt (swp s.R n p j) C) && bt (s.R p) k)) := fun j k => by
      unfold adr
      by_cases h1 : j ≠ n ∧ bt (swp s.R n p j) C = true
      · rw [if_pos h1, bt_xor, hswn, decide_eq_true h1.1, h1.2]; rfl
      · rw [if_neg h1]
        have : (decide (j ≠ n) && bt (swp s.R n p j) C) = false := by
          cases hb : bt (swp s.R n p j) C with
          | false => rw [Bool.and_false]
          | true =>
            have : ¬ j ≠ n := fun e => h1 ⟨e, hb⟩
            rw [decide_eq_false this]; rfl
        rw [this, Bool.false_and, Bool.xor_false]
    have hpr : ∀ c, c < C → bt (s.R p) c = false := h.rest p (by omega) hp
    have e0 : made p C s = ⟨adr (swp s.R n p) (swp s.R n p) n C, adr (swp s.R n p) (swp s.r n p) n C, s.P ++ [C]⟩ := by unfold made; rw [hn]
    rw [e0]
    clear e0
    refine ⟨?_, ?_, ?_, ?_, ?_, ?_, ?_, ?_⟩
    · show (s.P ++ [C]).length ≤ m; rw [hl]; omega
    · intro i hi
      have hi' : i < n + 1 := by rw [← hl]; exact hi
      show pe (s.P ++ [C]) i < C + 1
      by_cases e : i = n
      · subst e; rw [hpn]; omega
      · rw [hpl i (by omega)]; have := h.lt i (by omega); omega
    · intro i j hij hj
      have hj' : j < n + 1 := by rw [← hl]; exact hj
      show pe (s.P ++ [C]) i < pe (s.P ++ [C]) j
      rw [hpl i (by omega)]
      by_cases e : j = n
      · subst e; rw [hpn]; exact h.lt i (by omega)
      · rw [hpl j (by omega)]; exact h.asc i j hij (by omega)
    · intro i hi
      have hi' : i < n + 1 := by rw [← hl]; exact hi
      show bt (adr (swp s.R n p) (swp s.R n p) n C i) (pe (s.P ++ [C]) i) = true
      rw [hadr]
      by_cases e : i = n
      · subst e; rw [hpn, hswn, hyes]; simp
      · rw [hpl i (by omega), hsw i (by omega), h.one i (by omega), hpr _ (h.lt i (by omega)), Bool.and_false]; rfl
    · intro i hi j hj hne
      have hi' : i < n + 1 := by rw [← hl]; exact hi
      show bt (adr (swp s.R n p) (swp s.R n p) n C j) (pe (s.P ++ [C]) i) = false
      rw [hadr]
      by_cases e : i = n
      · subst e
        rw [hpn, hyes, decide_eq_true hne]
        cases bt (swp s.R i p j) C <;> rfl
      · have hlt := h.lt i (by omega)
        rw [hpl i (by omega), hpr _ hlt, Bool.and_false, Bool.xor_false]
        by_cases h1 : j < n
        · rw [hsw j h1]; exact h.off i (by omega) j hj hne
        · exact hlow j (by omega) hj _ hlt
    · intro i hi c hc
      have hi' : i < n + 1 := by rw [← hl]; exact hi
      have hc' : c < pe (s.P ++ [C]) i := hc
      show bt (adr (swp s.R n p) (swp s.R n p) n C i) c = false
      rw [hadr]
      by_cases e : i = n
      · subst e
        rw [hpn] at hc'
        rw [hlow i (Nat.le_refl _) (by omega) c hc', hpr c hc', Bool.and_false]; rfl
      · rw [hpl i (by omega)] at hc'
        have hlt := h.lt i (by omega)
        rw [hsw i (by omega), h.low i (by omega) c hc', hpr c (by omega), Bool.and_false]; rfl
    · intro j h1 h2 c hc
      have h1' : n + 1 ≤ j := by rw [← hl]; exact h1
      show bt (adr (swp s.R n p) (swp s.R n p) n C j) c = false
      rw [hadr]
      by_cases e : c = C
      · subst e
        rw [hyes, decide_eq_true (show j ≠ n by omega)]
        cases bt (swp s.R n p j) c <;> rfl
      · rw [hlow j (by omega) h2 c (by omega), hpr c (by omega), Bool.and_false]; rfl
    · show cnt (s.P ++ [C]) (C + 1) + (s.P ++ [C]).length = C + 1
      have hh := h.count
      rw [hl]
      unfold cnt
      have e1 : cnt (s.P ++ [C]) C = cnt s.P C := cnt_congr (fun c hc => by
        rw [List.contains_eq_mem, List.contains_eq_mem]
        congr 1
        simp only [List.mem_append, List.mem_singleton, eq_iff_iff]
        constructor
        · rintro (q | q)
          · exact q
          · omega
        · exact Or.inl)
      have e2 : (s.P ++ [C]).contains C = true := by
        rw [List.contains_eq_mem, decide_eq_true_eq]
        exact List.mem_append.2 (.inr (List.mem_singleton.2 rfl))
      rw [e1, e2]
      simp only [if_true]
      omega
  · rw [if_neg hp]
    have hno : ∀ j, s.P.length ≤ j → j < m → bt (s.R j) C = false := fun j h1 h2 => by
      have hle := fnd_le s.R C (m - s.P.length) s.P.length
      refine fnd_no s.R C (m - s.P.length) s.P.length j h1 ?_
      unfold piv at hp
      omega
    refine ⟨h.len, fun i hi => Nat.lt_succ_of_lt (h.lt i hi), h.asc, h.one, h.off, h.low, fun j h1 h2 c hc => ?_, ?_⟩
    · by_cases e : c = C
      · subst e; exact hno j h1 h2
      · exact h.rest j h1 h2 c (by omega)
    · unfold cnt
      rw [hnc]
      have := h.count
      simp only [Bool.false_eq_true, if_false]
      omega
theorem inv_run (m : Nat) (R r : Nat → V) : ∀ C, Inv m C (run m ⟨R, r, []⟩ C)
  | 0 => inv_start m R r
  | C + 1 => inv_step (inv_run m R r C)

/-- Linear things that hold of all rows hold of the rows that have been eliminated, and the other way round. -/
theorem lin_step {m C : Nat} {s : St} (hl : s.P.length ≤ m) (φ ψ : V → Bool) (hφ : ∀ a b, φ (a ^^^ b) = (φ a ^^ φ b)) (hψ : ∀ a b, ψ (a ^^^ b) = (ψ a ^^ ψ b)) :
    (∀ j, j < m → φ ((step m C s).R j) = ψ ((step m C s).r j)) ↔ (∀ j, j < m → φ (s.R j) = ψ (s.r j)) := by
  unfold step
  by_cases hp : piv m C s < m
  · rw [if_pos hp]
    have hge : s.P.length ≤ piv m C s := (fnd_le s.R C (m - s.P.length) s.P.length).1
    obtain ⟨p, hpe⟩ : ∃ p, piv m C s = p := ⟨_, rfl⟩
    rw [hpe] at hp hge ⊢
    obtain ⟨n, hn⟩ : ∃ n, s.P.length = n := ⟨_, rfl⟩
    have e0 : made p C s = ⟨adr (swp s.R n p) (swp s.R n p) n C, adr (swp s.R n p) (swp s.r n p) n C, s.P ++ [C]⟩ := by unfold made; rw [hn]
    rw [e0]
    rw [hn] at hge
    have hsw : (∀ j, j < m → φ (swp s.R n p j) = ψ (swp s.r n p j)) ↔ (∀ j, j < m → φ (s.R j) = ψ (s.r j)) := by
      constructor
      · intro h j hj
        by_cases h1 : j = n
        · subst h1
          have := h p hp
          unfold swp at this
          by_cases h2 : p = j
          · rw [if_pos h2, if_pos h2] at this
            rw [h2] at this; exact this
          · rw [if_neg h2, if_neg h2, if_pos rfl, if_pos rfl] at this; exact this
        · by_cases h2 : j = p
          · subst h2
            have := h n (by omega)
            unfold swp at this
            rw [if_pos rfl, if_pos rfl] at this; exact this
          · have := h j hj
            unfold swp at this
            rw [if_neg h1, if_neg h1, if_neg h2, if_neg h2] at this; exact this
      · intro h j hj
        unfold swp
        by_cases h1 : j = n
        · rw [if_pos h1, if_pos h1]; exact h p hp
        · rw [if_neg h1, if_neg h1]
          by_cases h2 : j = p
          · rw [if_pos h2, if_pos h2]; exact h n (by omega)
          · rw [if_neg h2, if_neg h2]; exact h j hj
    rw [← hsw]
    show (∀ j, j < m → φ (adr (swp s.R n p) (swp s.R n p) n C j) = ψ (adr (swp s.R n p) (swp s.r n p) n C j)) ↔ _
    generalize swp s.R n p = R
    generalize swp s.r n p = r
    have hnn : n < m := by omega
    have hN : adr R R n C n = R n ∧ adr R r n C n = r n := by unfold adr; rw [if_neg (fun h => h.1 rfl), if_neg (fun h => h.1 rfl)]; exact ⟨rfl, rfl⟩
    constructor
    · intro h j hj
      have h0 := h n hnn
      rw [hN.1, hN.2] at h0
      have := h j hj
      unfold adr at this
      by_cases h1 : j ≠ n ∧ bt (R j) C = true
      · rw [if_pos h1, if_pos h1, hφ, hψ, h0] at this
        revert this
        cases φ (R j) <;> cases ψ (r j) <;> cases ψ (r n) <;> decide
      · rw [if_neg h1, if_neg h1] at this; exact this
    · intro h j hj
      unfold adr
      by_cases h1 : j ≠ n ∧ bt (R j) C = true
      · rw [if_pos h1, if_pos h1, hφ, hψ, h j hj, h n hnn]
      · rw [if_neg h1, if_neg h1]; exact h j hj
  · rw [if_neg hp]
theorem lin_run (m : Nat) (R r : Nat → V) (φ ψ : V → Bool) (hφ : ∀ a b, φ (a ^^^ b) = (φ a ^^ φ b)) (hψ : ∀ a b, ψ (a ^^^ b) = (ψ a ^^ ψ b)) : ∀ C,
    (∀ j, j < m → φ ((run m ⟨R, r, []⟩ C).R j) = ψ ((run m ⟨R, r, []⟩ C).r j)) ↔ (∀ j, j < m → φ (R j) = ψ (r j))
  | 0 => Iff.rfl
  | C + 1 => (lin_step (inv_run m R r C).len φ ψ hφ hψ).trans (lin_run m R r φ ψ hφ hψ C)
/-- The rows and the pivots do not depend on the right sides. -/
theorem run_same (m : Nat) (R r q : Nat → V) : ∀ C, (run m ⟨R, r, []⟩ C).R = (run m ⟨R, q, []⟩ C).R ∧ (run m ⟨R, r, []⟩ C).P = (run m ⟨R, q, []⟩ C).P
  | 0 => ⟨rfl, rfl⟩
  | C + 1 => by
    obtain ⟨h1, h2⟩ := run_same m R r q C
    have hp : piv m C (run m ⟨R, r, []⟩ C) = piv m C (run m ⟨R, q, []⟩ C) := by unfold piv; rw [h1, h2]
    show (step m C _).R = (step m C _).R ∧ (step m C _).P = (step m C _).P
    unfold step
    rw [hp]
    split
    · unfold made
      simp only
      rw [h1, h2]
      exact ⟨rfl, rfl⟩
    · exact ⟨h1, h2⟩
end Go.Proofs.Ytodiokladojnjaa.BM
