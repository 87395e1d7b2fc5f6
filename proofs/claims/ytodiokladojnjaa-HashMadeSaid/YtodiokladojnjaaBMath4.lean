/- Solve and Kernel: what they mean. -/
import Derived.Test.YtodiokladojnjaaBMath3
namespace Go.Proofs.Ytodiokladojnjaa.B
open BM (bt xs dot St Inv pe)

/-- The columns without a pivot, of the j highest, the highest one first. -/
def npL (P : List Nat) (C : Nat) : Nat → List Nat
  | 0 => []
  | j + 1 => npL P C j ++ (if P.contains (C - 1 - j) then [] else [C - 1 - j])
theorem kerL_map (P : List Nat) (f : Nat → V) (C : Nat) : ∀ j, kerL P f C j = (npL P C j).map f
  | 0 => rfl
  | j + 1 => by
    unfold kerL npL
    rw [kerL_map P f C j, List.map_append]
    congr 1
    split <;> rfl
theorem npL_mem (P : List Nat) (C : Nat) : ∀ j, j ≤ C → ∀ c, c ∈ npL P C j ↔ (c < C ∧ C ≤ c + j ∧ P.contains c = false)
  | 0, _, c => by
    unfold npL
    constructor
    · intro h; cases h
    · rintro ⟨h1, h2, _⟩; omega
  | j + 1, hj, c => by
    unfold npL
    rw [List.mem_append, npL_mem P C j (by omega) c]
    constructor
    · rintro (⟨h1, h2, h3⟩ | h)
      · exact ⟨h1, by omega, h3⟩
      · split at h
        · cases h
        · rename_i hn
          have : c = C - 1 - j := by simpa using h
          subst this
          exact ⟨by omega, by omega, by cases h : P.contains (C - 1 - j); rfl; exact absurd h hn⟩
    · rintro ⟨h1, h2, h3⟩
      by_cases e : c = C - 1 - j
      · right
        subst e
        rw [if_neg (by rw [h3]; decide)]
        exact List.mem_singleton.2 rfl
      · left
        exact ⟨h1, by omega, h3⟩
theorem npL_desc (P : List Nat) (C : Nat) : ∀ j, j ≤ C → ∀ i k, i < k → k < (npL P C j).length → pe (npL P C j) k < pe (npL P C j) i
  | 0, _, i, k, _, hk => absurd hk (Nat.not_lt_zero k)
  | j + 1, hj, i, k, hik, hk => by
    have ih := npL_desc P C j (by omega)
    have hm := npL_mem P C j (by omega)
    unfold npL at hk ⊢
    split at hk
    · rename_i hc
      rw [if_pos hc, List.append_nil]
      rw [List.append_nil] at hk
      exact ih i k hik hk
    · rename_i hc
      rw [if_neg hc]
      rw [List.length_append, List.length_singleton] at hk
      by_cases e : k = (npL P C j).length
      · subst e
        rw [BM.pe_app_end, BM.pe_app_lt hik]
        have := (hm _).1 (BM.pe_mem hik)
        omega
      · rw [BM.pe_app_lt (by omega), BM.pe_app_lt (by omega)]
        exact ih i k hik (by omega)
theorem npL_len (P : List Nat) (C : Nat) : ∀ j, j ≤ C → (npL P C j).length + BM.cnt P (C - j) = BM.cnt P C
  | 0, _ => by simp [npL]
  | j + 1, hj => by
    have ih := npL_len P C j (by omega)
    unfold npL
    rw [List.length_append]
    have e : BM.cnt P (C - 1 - j + 1) = BM.cnt P (C - 1 - j) + (if P.contains (C - 1 - j) then 0 else 1) := rfl
    rw [show C - j = C - 1 - j + 1 by omega, e] at ih
    rw [show C - (j + 1) = C - 1 - j by omega]
    clear e
    generalize BM.cnt P C = q at ih ⊢
    split at ih
    · rename_i hc; rw [if_pos hc]; simp only [List.length_nil]; omega
    · rename_i hc; rw [if_neg hc]; simp only [List.length_singleton]; omega

section
variable {C : Nat} {R : List V}
def kerN (C : Nat) (R : List V) : List Nat := npL (kernS C R).P C C
theorem kernL_is (h : MV C R) : kernL C R = (kerN C R).map (balS (kernS C R)) := by
  unfold kernL kerN
  rw [h.yes, Int.toNat_natCast, if_pos rfl, kerL_map]
theorem kernE_is (h : MV C R) : kernE C R = 0 := by unfold kernE; rw [h.yes, if_pos rfl]
theorem rankN_is (h : MV C R) : rankN C R = (kernS C R).P.length := by unfold rankN; rw [h.yes, Int.toNat_natCast, if_pos rfl]; rfl
theorem ker_count (h : MV C R) : (kernL C R).length + rankN C R = C := by
  rw [kernL_is h, rankN_is h, List.length_map]
  have h1 := npL_len (kernS C R).P C C (Nat.le_refl _)
  have h2 := (sv_inv C R (fun _ => 0)).count
  rw [Nat.sub_self] at h1
  have h3 : BM.cnt (kernS C R).P 0 = 0 := rfl
  rw [h3] at h1
  show (npL (kernS C R).P C C).length + _ = C
  have h4 : BM.cnt (kernS C R).P C + (kernS C R).P.length = C := h2
  omega
theorem kernN_mem (c : Nat) : c ∈ kerN C R ↔ (c < C ∧ (kernS C R).P.contains c = false) := by
  unfold kerN
  rw [npL_mem _ _ _ (Nat.le_refl _)]
  constructor
  · rintro ⟨h1, _, h3⟩; exact ⟨h1, h3⟩
  · rintro ⟨h1, h3⟩; exact ⟨h1, by omega, h3⟩
theorem el_map (f : Nat → V) {l : List Nat} {i : Nat} (h : i < l.length) : el (l.map f) i = f (pe l i) := by
  rw [el_lt (by rw [List.length_map]; exact h), List.getElem_map]
  unfold pe
  rw [List.getElem?_eq_getElem h]; rfl

/-- The vector leads to 0. -/
structure Ker (C : Nat) (R : List V) (d : V) : Prop where
  zero : ∀ j, j < R.length → dot (el R j) d = false
  fit : ∀ b, C ≤ b → bt d b = false
theorem Ker.solved {d : V} (h : Ker C R d) (r : Nat → V) : ∀ j, j < R.length → dot ((sv C R r).R j) d = false := by
  have := (sv_lin C R r (fun a => dot a d) (fun _ => false) (fun a b => BM.dot_xor_l a b d) no_lin).2 (fun j hj => h.zero j hj)
  exact this
theorem Ker.of {d : V} (r : Nat → V) (h : ∀ j, j < R.length → dot ((sv C R r).R j) d = false) (hf : ∀ b, C ≤ b → bt d b = false) : Ker C R d :=
  ⟨(sv_lin C R r (fun a => dot a d) (fun _ => false) (fun a b => BM.dot_xor_l a b d) no_lin).1 h, hf⟩
theorem Ker.xor {d e : V} (h : Ker C R d) (k : Ker C R e) : Ker C R (d ^^^ e) :=
  ⟨fun j hj => by rw [BM.dot_xor_r, h.zero j hj, k.zero j hj]; rfl, fun b hb => by rw [BM.bt_xor, h.fit b hb, k.fit b hb]; rfl⟩
/-- Vector i of the kernel. -/
theorem ker_at (h : MV C R) {i : Nat} (hi : i < (kernL C R).length) : ∃ c, c = pe (kerN C R) i ∧ c < C ∧ Ker C R (el (kernL C R) i) ∧ bt (el (kernL C R) i) c = true ∧ (∀ b, c < b → bt (el (kernL C R) i) b = false) ∧
    ∀ i', i' < (kernL C R).length → i' ≠ i → bt (el (kernL C R) i) (pe (kerN C R) i') = false := by
  have hC := h.c2
  rw [kernL_is h] at hi ⊢
  rw [List.length_map] at hi
  rw [el_map _ hi, List.length_map]
  obtain ⟨hc, hp⟩ := (kernN_mem _).1 (BM.pe_mem hi)
  refine ⟨_, rfl, hc, Ker.of (fun _ => 0) (bal_zero hC _ hc hp) (bal_fit _ hc), bal_top _ _ _ (by omega) _, bal_high _, fun i' hi' hne => ?_⟩
  refine bal_other _ ((kernN_mem _).1 (BM.pe_mem hi')).2 ?_
  intro e
  rcases Nat.lt_or_gt_of_ne hne with hlt | hlt
  · have := npL_desc (kernS C R).P C C (Nat.le_refl _) i' i hlt hi
    unfold kerN at e
    omega
  · have := npL_desc (kernS C R).P C C (Nat.le_refl _) i i' hlt hi'
    unfold kerN at e
    omega
theorem ker_desc (h : MV C R) {i k : Nat} (hik : i < k) (hk : k < (kernL C R).length) : pe (kerN C R) k < pe (kerN C R) i := by
  rw [kernL_is h, List.length_map] at hk
  exact npL_desc _ _ _ (Nat.le_refl _) i k hik hk

/-- What is left of a difference of solutions behind i vectors of the kernel. -/
structure Red (C : Nat) (R : List V) (i : Nat) (d : V) : Prop where
  ker : Ker C R d
  done : ∀ i', i' < i → bt d (pe (kerN C R) i') = false
theorem lt_xor {d k : V} {c : Nat} (h1 : bt k c = true) (h2 : ∀ b, c < b → bt k b = false) : ((d ^^^ k).toNat < d.toNat) ↔ bt d c = true := by
  constructor
  · intro h
    cases hd : bt d c with
    | true => rfl
    | false =>
      have := lt_top (x := d) (y := d ^^^ k) c hd (by rw [BM.bt_xor, hd, h1]; rfl) (fun b hb => by rw [BM.bt_xor, h2 b hb, Bool.xor_false])
      omega
  · intro h
    exact lt_top c (by rw [BM.bt_xor, h, h1]; rfl) h (fun b hb => by rw [BM.bt_xor, h2 b hb, Bool.xor_false])
theorem Red.step (h : MV C R) {i : Nat} {d : V} (hr : Red C R i d) (hi : i < (kernL C R).length) :
    (((d ^^^ el (kernL C R) i).toNat < d.toNat) → Red C R (i + 1) (d ^^^ el (kernL C R) i)) ∧ (¬ ((d ^^^ el (kernL C R) i).toNat < d.toNat) → Red C R (i + 1) d) := by
  obtain ⟨c, hce, hc, hk, h1, h2, h3⟩ := ker_at h hi
  rw [lt_xor h1 h2]
  constructor
  · intro hd
    refine ⟨hr.ker.xor hk, fun i' hi' => ?_⟩
    rw [BM.bt_xor]
    by_cases e : i' = i
    · subst e; rw [← hce, hd, h1]; rfl
    · rw [hr.done i' (by omega), h3 i' (by omega) e]; rfl
  · intro hd
    refine ⟨hr.ker, fun i' hi' => ?_⟩
    by_cases e : i' = i
    · subst e
      rw [← hce]
      cases hb : bt d c with
      | false => rfl
      | true => exact absurd hb hd
    · exact hr.done i' (by omega)
theorem Red.zero (h : MV C R) {d : V} (hr : Red C R (kernL C R).length d) : d = 0 := by
  refine ker_zero h.c2 (fun _ => 0) (hr.ker.solved _) hr.ker.fit (fun c hc hp => ?_)
  have hm : c ∈ kerN C R := (kernN_mem c).2 ⟨hc, hp⟩
  obtain ⟨i, hi, e⟩ := BM.mem_pe hm
  rw [← e]
  refine hr.done i ?_
  rw [kernL_is h, List.length_map]
  exact hi

/-- Apply gives y. -/
theorem app_iff (h : MV C R) {y w : V} (hy : fitB y R.length = true) : BM.app (el R) R.length w = y ↔ ∀ j, j < R.length → dot (el R j) w = bt y j := by
  have hm := h.r2
  constructor
  · intro e j hj
    rw [← e, BM.bt_app hj hm]
  · intro hd
    refine BM.bt_ext (fun k _ => ?_)
    by_cases hk : k < R.length
    · rw [BM.bt_app hk hm, hd k hk]
    · rw [BM.bt_app_ge (by omega), (fitB_iff _ _).1 hy k (by omega)]
theorem applyE_is (h : MV C R) {w : V} (hw : fitB w C = true) : applyE C R w = 0 := by unfold applyE; rw [h.yes, Int.toNat_natCast, hw]; rfl
theorem applyV_is (h : MV C R) {w : V} (hw : fitB w C = true) : applyV C R w = BM.app (el R) R.length w := by unfold applyV; rw [h.yes, Int.toNat_natCast, hw]; rfl

/-- The right sides are bits. -/
theorem rhs_bits (v : V) : ∃ t : Nat → Bool, (sv C R (rhs v)).r = fun j => b1 (t j) := r_bits _ _ (bt v) C
theorem solveE_is (h : MV C R) {y : V} (hy : fitB y R.length = true) : solveE C R y = if sing R.length (sv C R (rhs y)) then 6 else 0 := by
  unfold solveE; rw [h.yes, hy, Int.toNat_natCast, if_pos rfl, if_pos rfl]
theorem sol_rows (y w : V) : (∀ j, j < R.length → dot ((sv C R (rhs y)).R j) w = bt ((sv C R (rhs y)).r j) 0) ↔ ∀ j, j < R.length → dot (el R j) w = bt y j := by
  rw [sv_lin C R (rhs y) (fun a => dot a w) (fun a => bt a 0) (fun a b => BM.dot_xor_l a b w) (fun a b => BM.bt_xor a b 0)]
  constructor
  · intro h j hj
    have := h j hj
    rwa [show rhs y j = b1 (bt y j) from rfl, bt_b1] at this
  · intro h j hj
    rw [show rhs y j = b1 (bt y j) from rfl, bt_b1]
    exact h j hj
theorem sing_no {y : V} (hs : sing R.length (sv C R (rhs y)) = false) : ∀ j, (sv C R (rhs y)).P.length ≤ j → j < R.length → bt ((sv C R (rhs y)).r j) 0 = false := by
  intro j h1 h2
  obtain ⟨t, ht⟩ := rhs_bits (C := C) (R := R) y
  cases hb : bt ((sv C R (rhs y)).r j) 0 with
  | false => rfl
  | true =>
    have : sing R.length (sv C R (rhs y)) = true := (sing_iff _ _).2 ⟨j, h1, h2, by
      rw [ht] at hb ⊢
      exact (b1_val _).2 hb⟩
    rw [hs] at this; cases this
theorem solve_least (h : MV C R) {y : V} (hs : sing R.length (sv C R (rhs y)) = false) :
    ∀ j, j < R.length → dot ((sv C R (rhs y)).R j) (lst (sv C R (rhs y)).r (el (sv C R (rhs y)).P) (sv C R (rhs y)).P.length) = bt ((sv C R (rhs y)).r j) 0 := by
  have hno := sing_no hs
  have hi := sv_inv C R (rhs y)
  have hC := h.c2
  obtain ⟨t, ht⟩ := rhs_bits (C := C) (R := R) y
  generalize sv C R (rhs y) = s at hno hi ht ⊢
  intro j hj
  rw [ht, lst_dot t (el s.P) (s.R j) s.P.length (fun i hi' => by have := hi.lt i hi'; rw [el_pe]; omega) (fun i k hik hk => by rw [el_pe, el_pe]; exact Nat.ne_of_lt (hi.asc i k hik hk)), bt_b1]
  by_cases hjn : j < s.P.length
  · rw [BM.xs_one hjn (fun i hi' hne => by rw [el_pe, hi.off i hi' j hj (Ne.symm hne), Bool.and_false]), el_pe, hi.one j hjn, Bool.and_true]
  · have h0 := hno j (by omega) hj
    rw [ht, bt_b1] at h0
    rw [h0]
    exact BM.xs_false (fun i hi' => by rw [el_pe, hi.off i hi' j hj (by omega), Bool.and_false])
theorem lst_fit (y : V) : ∀ b, C ≤ b → bt (lst (sv C R (rhs y)).r (el (sv C R (rhs y)).P) (sv C R (rhs y)).P.length) b = false := by
  have hi := sv_inv C R (rhs y)
  obtain ⟨t, ht⟩ := rhs_bits (C := C) (R := R) y
  generalize sv C R (rhs y) = s at hi ht ⊢
  intro b hb
  rw [ht]
  cases hbb : bt (lst (fun j => b1 (t j)) (el s.P) s.P.length) b with
  | false => rfl
  | true =>
    obtain ⟨i, h1, h2, _⟩ := lst_bits _ _ _ _ hbb
    have := hi.lt i h1
    rw [el_pe] at h2
    omega
theorem lst_piv (y : V) {c : Nat} (hc : (sv C R (rhs y)).P.contains c = false) : bt (lst (sv C R (rhs y)).r (el (sv C R (rhs y)).P) (sv C R (rhs y)).P.length) c = false := by
  obtain ⟨t, ht⟩ := rhs_bits (C := C) (R := R) y
  generalize sv C R (rhs y) = s at hc ht ⊢
  rw [ht]
  cases hbb : bt (lst (fun j => b1 (t j)) (el s.P) s.P.length) c with
  | false => rfl
  | true =>
    obtain ⟨i, h1, h2, _⟩ := lst_bits _ _ _ _ hbb
    have hm : c ∈ s.P := by rw [← h2]; exact BM.pe_mem h1
    rw [List.contains_eq_mem, decide_eq_false_iff_not] at hc
    exact absurd hm hc
/-- What Solve answers. -/
theorem solve_facts (h : MV C R) {y : V} (hy : fitB y R.length = true) :
    ((solveE C R y = 6 ∧ solveV C R y = 0) ∨ (solveE C R y = 0 ∧ fitB (solveV C R y) C = true ∧ BM.app (el R) R.length (solveV C R y) = y)) ∧
    ∀ w : V, fitB w C = true → BM.app (el R) R.length w = y → solveE C R y = 0 ∧ (solveV C R y).toNat ≤ w.toNat ∧ Ker C R (solveV C R y ^^^ w) := by
  have he := solveE_is h hy
  have hC := h.c2
  have key : sing R.length (sv C R (rhs y)) = false → solveE C R y = 0 ∧ fitB (solveV C R y) C = true ∧ BM.app (el R) R.length (solveV C R y) = y ∧ solveV C R y = lst (sv C R (rhs y)).r (el (sv C R (rhs y)).P) (sv C R (rhs y)).P.length := fun hs => by
    rw [hs] at he
    have e0 : solveE C R y = 0 := he
    have e1 : solveV C R y = lst (sv C R (rhs y)).r (el (sv C R (rhs y)).P) (sv C R (rhs y)).P.length := by unfold solveV; rw [if_pos e0, Int.toNat_natCast]
    refine ⟨e0, by rw [e1]; exact (fitB_iff _ _).2 (lst_fit y), ?_, e1⟩
    rw [app_iff h hy, e1]
    exact (sol_rows (C := C) y _).1 (solve_least h hs)
  constructor
  · cases hs : sing R.length (sv C R (rhs y)) with
    | true =>
      rw [hs] at he
      have e0 : solveE C R y = 6 := he
      exact .inl ⟨e0, by unfold solveV; rw [e0]; rfl⟩
    | false =>
      obtain ⟨k1, k2, k3, _⟩ := key hs
      exact .inr ⟨k1, k2, k3⟩
  · intro w hw hwy
    have hw' := (fitB_iff _ _).1 hw
    have hsol := (sol_rows (C := C) y w).2 ((app_iff h hy).1 hwy)
    have hs : sing R.length (sv C R (rhs y)) = false := by
      cases hs : sing R.length (sv C R (rhs y)) with
      | false => rfl
      | true =>
        obtain ⟨j, q1, q2, q3⟩ := (sing_iff _ _).1 hs
        have hj := hsol j q2
        have h0 : dot ((sv C R (rhs y)).R j) w = false := by
          unfold dot
          refine BM.xs_false (fun b _ => ?_)
          by_cases hb : b < C
          · rw [(sv_inv C R (rhs y)).rest j q1 q2 b hb, Bool.false_and]
          · rw [hw' b (by omega), Bool.and_false]
        obtain ⟨t, ht⟩ := rhs_bits (C := C) (R := R) y
        rw [h0, ht, bt_b1] at hj
        rw [ht] at q3
        rw [(b1_one _).1 q3] at hj
        cases hj
    obtain ⟨k1, k2, k3, k4⟩ := key hs
    have hx := (sol_rows (C := C) y _).2 ((app_iff h hy).1 k3)
    have hker : Ker C R (solveV C R y ^^^ w) := by
      refine Ker.of (rhs y) (fun j hj => ?_) (fun b hb => ?_)
      · rw [BM.dot_xor_r, hx j hj, hsol j hj]; cases bt ((sv C R (rhs y)).r j) 0 <;> rfl
      · rw [BM.bt_xor, (fitB_iff _ _).1 k2 b hb, hw' b hb]; rfl
    refine ⟨k1, ?_, hker⟩
    rcases top_bit (solveV C R y ^^^ w) C hker.fit with h0 | ⟨t, ht1, ht2, ht3⟩
    · have : solveV C R y = w := by
        refine BM.bt_ext (fun k _ => ?_)
        have := congrArg (fun x => bt x k) h0
        simp only [BM.bt_xor, BM.bt_zero] at this
        revert this
        cases bt (solveV C R y) k <;> cases bt w k <;> decide
      rw [this]; exact Nat.le_refl _
    · have hp := ker_top hC (rhs y) (hker.solved _) ht1 ht2 ht3
      have hxt : bt (solveV C R y) t = false := by rw [k4]; exact lst_piv y hp
      rw [BM.bt_xor, hxt, Bool.false_xor] at ht2
      refine Nat.le_of_lt (lt_top t hxt ht2 (fun b hb => ?_))
      have := ht3 b hb
      rw [BM.bt_xor] at this
      revert this
      cases bt (solveV C R y) b <;> cases bt w b <;> decide
end
end Go.Proofs.Ytodiokladojnjaa.B
