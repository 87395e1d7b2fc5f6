/- Rank, Turn, Mul, Inverse: what they mean. -/
import Derived.Test.YtodiokladojnjaaBMath4
namespace Go.Proofs.Ytodiokladojnjaa.B
open BM (bt xs dot St Inv pe)

section
variable {C : Nat} {R : List V}
/-- The first C elements of m vectors come from r vectors. -/
def Fac (m C : Nat) (M : Nat → Nat → Bool) (r : Nat) : Prop := ∃ X Y : Nat → Nat → Bool, ∀ i, i < m → ∀ k, k < C → M i k = xs r (fun l => X i l && Y l k)
def bits2 (R : List V) (i k : Nat) : Bool := bt (el R i) k
theorem Fac.turn {m C : Nat} {M : Nat → Nat → Bool} {r : Nat} (h : Fac m C M r) : Fac C m (fun k i => M i k) r := by
  obtain ⟨X, Y, h⟩ := h
  refine ⟨fun k l => Y l k, fun l i => X i l, fun k hk i hi => ?_⟩
  show M i k = _
  rw [h i hi k hk]
  exact BM.xs_congr (fun l _ => Bool.and_comm _ _)
theorem Fac.congr {m C : Nat} {M N : Nat → Nat → Bool} {r : Nat} (h : Fac m C M r) (e : ∀ i, i < m → ∀ k, k < C → N i k = M i k) : Fac m C N r := by
  obtain ⟨X, Y, h⟩ := h
  exact ⟨X, Y, fun i hi k hk => by rw [e i hi k hk]; exact h i hi k hk⟩
/-- .. of a product. -/
theorem Fac.mul_l {m n C : Nat} {A B : Nat → Nat → Bool} {r : Nat} (h : Fac m n A r) : Fac m C (fun i k => xs n (fun j => A i j && B j k)) r := by
  obtain ⟨X, Y, h⟩ := h
  refine ⟨X, fun l k => xs n (fun j => Y l j && B j k), fun i hi k _ => ?_⟩
  show xs n _ = _
  rw [BM.xs_congr (g := fun j => xs r (fun l => X i l && (Y l j && B j k))) (fun j hj => by
    rw [h i hi j hj, ← BM.xs_and_r]
    exact BM.xs_congr (fun l _ => Bool.and_assoc _ _ _)), BM.xs_swap]
  exact BM.xs_congr (fun l _ => BM.xs_and _ _ _)
theorem Fac.mul_r {m n C : Nat} {A B : Nat → Nat → Bool} {r : Nat} (h : Fac n C B r) : Fac m C (fun i k => xs n (fun j => A i j && B j k)) r := by
  obtain ⟨X, Y, h⟩ := h
  refine ⟨fun i l => xs n (fun j => A i j && X j l), Y, fun i _ k hk => ?_⟩
  show xs n _ = _
  rw [BM.xs_congr (g := fun j => xs r (fun l => (A i j && X j l) && Y l k)) (fun j hj => by
    rw [h j hj k hk, ← BM.xs_and]
    exact BM.xs_congr (fun l _ => (Bool.and_assoc _ _ _).symm)), BM.xs_swap]
  exact BM.xs_congr (fun l _ => BM.xs_and_r _ _ _)

theorem piv_ne (s : St) {c : Nat} (hp : s.P.contains c = false) : ∀ i, i < s.P.length → pe s.P i ≠ c := fun i hi e => by
  have hm : c ∈ s.P := by rw [← e]; exact BM.pe_mem hi
  rw [List.contains_eq_mem, decide_eq_false_iff_not] at hp
  exact hp hm
/-- The rows come from the rows that have a pivot. -/
theorem fac_of (hC : C ≤ 64) (r : Nat → V) : Fac R.length C (bits2 R) (sv C R r).P.length := by
  have h := sv_inv C R r
  refine ⟨fun i l => bt (el R i) (pe (sv C R r).P l), fun l k => bt ((sv C R r).R l) k, fun i hi k hk => ?_⟩
  show bt (el R i) k = xs (sv C R r).P.length (fun l => bt (el R i) (pe (sv C R r).P l) && bt ((sv C R r).R l) k)
  cases hp : (sv C R r).P.contains k with
  | true =>
    rw [List.contains_eq_mem, decide_eq_true_eq] at hp
    obtain ⟨q, hq, e⟩ := BM.mem_pe hp
    rw [BM.xs_one hq (fun l hl hne => by rw [← e, h.off q hq l (Nat.lt_of_lt_of_le hl h.len) hne, Bool.and_false]), ← e, h.one q hq, Bool.and_true]
  | false =>
    have hk0 := (Ker.of r (bal_zero hC r hk hp) (bal_fit r hk)).zero i hi
    unfold balS at hk0
    rw [bal_dot (sv C R r).R (el (sv C R r).P) k (by omega) (el R i) (sv C R r).P.length (fun q hq => by have := h.lt q hq; rw [el_pe]; omega) (piv_ne _ hp) (fun q j hi' hj' => by rw [el_pe, el_pe]; exact Nat.ne_of_lt (h.asc q j hi' hj'))] at hk0
    have e : xs (sv C R r).P.length (fun l => bt (el R i) (pe (sv C R r).P l) && bt ((sv C R r).R l) k) = xs (sv C R r).P.length (fun l => bt ((sv C R r).R l) k && bt (el R i) (el (sv C R r).P l)) := BM.xs_congr (fun l _ => Bool.and_comm _ _)
    rw [e]
    revert hk0
    cases bt (el R i) k <;> cases xs (sv C R r).P.length (fun l => bt ((sv C R r).R l) k && bt (el R i) (el (sv C R r).P l)) <;> decide
theorem sv_same (r q : Nat → V) : (sv C R r).R = (sv C R q).R ∧ (sv C R r).P = (sv C R q).P := BM.run_same _ _ r q C
theorem unitF_bt (j k : Nat) (hk : k < 64) : bt (unitF j) k = decide (k = j) := by
  unfold unitF
  rw [BM.bt_shl]
  by_cases h : k = j
  · rw [decide_eq_true ⟨h, hk⟩, decide_eq_true h]
  · rw [decide_eq_false (fun e => h e.1), decide_eq_false h]
/-- The right sides say of which rows the rows are sums. -/
theorem sv_comb (hm : R.length ≤ 64) : ∀ j, j < R.length → BM.comb (el R) ((sv C R unitF).r j) R.length = (sv C R unitF).R j := by
  intro j hj
  refine BM.bt_ext (fun k _ => ?_)
  exact (((sv_lin C R unitF (fun a => bt a k) (fun d => bt (BM.comb (el R) d R.length) k) (fun a b => BM.bt_xor a b k) (fun a b => by
    show bt (BM.comb (el R) (a ^^^ b) R.length) k = _
    rw [BM.comb_xor, BM.bt_xor])).2 (fun i hi => by
    show bt (el R i) k = bt (BM.comb (el R) (unitF i) R.length) k
    unfold unitF
    rw [BM.comb_one _ hi hm])) j hj).symm
/-- No matrix that comes from r vectors has more pivots. -/
theorem rank_le (hC : C ≤ 64) (hm : R.length ≤ 64) {r : Nat} (hf : Fac R.length C (bits2 R) r) (q : Nat → V) : (sv C R q).P.length ≤ r := by
  rcases Nat.lt_or_ge r (sv C R q).P.length with hlt | hge
  · exfalso
    rw [(sv_same q unitF).2] at hlt
    have h := sv_inv C R unitF
    have hcb := sv_comb (C := C) hm
    obtain ⟨X, Y, hf⟩ := hf
    obtain ⟨n, hn⟩ : ∃ n, (sv C R unitF).P.length = n := ⟨_, rfl⟩
    have hnm := h.len
    rw [hn] at hlt hnm
    -- row i is a sum of the r vectors
    have hz : ∀ i, i < n → ∀ k, k < C → bt ((sv C R unitF).R i) k = xs r (fun l => xs R.length (fun j => bt ((sv C R unitF).r i) j && X j l) && Y l k) := fun i hi k hk => by
      rw [← hcb i (by omega), BM.bt_comb]
      rw [BM.xs_congr (g := fun j => xs r (fun l => (bt ((sv C R unitF).r i) j && X j l) && Y l k)) (fun j hj => by
        have := hf j hj k hk
        unfold bits2 at this
        rw [this, ← BM.xs_and]
        exact BM.xs_congr (fun l _ => (Bool.and_assoc _ _ _).symm)), BM.xs_swap]
      exact BM.xs_congr (fun l _ => BM.xs_and_r _ _ _)
    obtain ⟨Z, hZ⟩ : ∃ Z : Nat → Nat → Bool, Z = fun i l => xs R.length (fun j => bt ((sv C R unitF).r i) j && X j l) := ⟨_, rfl⟩
    have hz' : ∀ i, i < n → ∀ k, k < C → bt ((sv C R unitF).R i) k = xs r (fun l => Z i l && Y l k) := fun i hi k hk => by rw [hz i hi k hk, hZ]
    clear hz hZ hcb
    -- a vector that leads to 0 through the r vectors
    have hq := sv_inv n (tab r (fun l => BM.ofB n (fun i => Z i l))) (fun _ => 0)
    rw [tab_len] at hq
    have hqlen := hq.len
    have hnp : ∃ c, c < n ∧ (sv n (tab r (fun l => BM.ofB n (fun i => Z i l))) (fun _ => 0)).P.contains c = false := by
      have hl := npL_len (sv n (tab r (fun l => BM.ofB n (fun i => Z i l))) (fun _ => 0)).P n n (Nat.le_refl _)
      rw [Nat.sub_self] at hl
      have h0 : BM.cnt (sv n (tab r (fun l => BM.ofB n (fun i => Z i l))) (fun _ => 0)).P 0 = 0 := rfl
      have hcnt := hq.count
      rw [h0] at hl
      have hpos : 0 < (npL (sv n (tab r (fun l => BM.ofB n (fun i => Z i l))) (fun _ => 0)).P n n).length := by omega
      have := (npL_mem _ _ _ (Nat.le_refl _) _).1 (BM.pe_mem hpos)
      exact ⟨_, this.1, this.2.2⟩
    obtain ⟨c, hc, hp⟩ := hnp
    have hk := Ker.of (fun _ => 0) (bal_zero (C := n) (R := tab r (fun l => BM.ofB n (fun i => Z i l))) (by omega) (fun _ => 0) hc hp) (bal_fit _ hc)
    have htop := bal_top (sv n (tab r (fun l => BM.ofB n (fun i => Z i l))) (fun _ => 0)).R (el (sv n (tab r (fun l => BM.ofB n (fun i => Z i l))) (fun _ => 0)).P) c (by omega) (sv n (tab r (fun l => BM.ofB n (fun i => Z i l))) (fun _ => 0)).P.length
    obtain ⟨d, hd⟩ : ∃ d, balS (sv n (tab r (fun l => BM.ofB n (fun i => Z i l))) (fun _ => 0)) c = d := ⟨_, rfl⟩
    have htop' : bt d c = true := by rw [← hd]; exact htop
    rw [hd] at hk
    have hker : ∀ l, l < r → xs n (fun i => Z i l && bt d i) = false := fun l hl => by
      have := hk.zero l (by rw [tab_len]; exact hl)
      rw [el_tab _ _ _ hl] at this
      unfold dot at this
      have e := BM.xs_more (n := n) (m := 64) (f := fun i => bt (BM.ofB n (fun i => Z i l)) i && bt d i) (by omega) (fun i hi => by rw [hk.fit i hi, Bool.and_false])
      rw [e] at this
      rw [← this]
      exact BM.xs_congr (fun i hi => by rw [BM.bt_ofB _ _ _ (by omega), decide_eq_true hi, Bool.true_and])
    -- the sum of the rows that it chooses is 0, but has a bit
    have hpc : c < n := hc
    have hlt' := h.lt c (by omega)
    have h1 : xs n (fun i => bt d i && bt ((sv C R unitF).R i) (pe (sv C R unitF).P c)) = true := by
      rw [BM.xs_one hpc (fun i hi hne => by rw [h.off c (by omega) i (by omega) hne, Bool.and_false]), htop', h.one c (by omega)]; rfl
    have h2 : xs n (fun i => bt d i && bt ((sv C R unitF).R i) (pe (sv C R unitF).P c)) = false := by
      rw [BM.xs_congr (g := fun i => xs r (fun l => (Z i l && bt d i) && Y l (pe (sv C R unitF).P c))) (fun i hi => by
        rw [hz' i hi _ hlt', ← BM.xs_and]
        refine BM.xs_congr (fun l _ => ?_)
        cases bt d i <;> cases Z i l <;> cases Y l (pe (sv C R unitF).P c) <;> rfl), BM.xs_swap]
      exact BM.xs_false (fun l hl => by rw [BM.xs_and_r, hker l hl, Bool.false_and])
    rw [h1] at h2
    cases h2
  · exact hge

theorem rank_fac (h : MV C R) : Fac R.length C (bits2 R) (rankN C R) := by
  rw [rankN_is h]; exact fac_of h.c2 _
theorem rank_least (h : MV C R) {r : Nat} (hf : Fac R.length C (bits2 R) r) : rankN C R ≤ r := by
  rw [rankN_is h]; exact rank_le h.c2 h.r2 hf _
end
/-- Turn. -/
theorem trF_bt {R : List V} {k j i : Nat} (hi : i < k) (hk : k ≤ 64) : bt (trF R k j) i = bt (el R i) j := by
  unfold trF; rw [BM.bt_ofB _ _ _ (by omega), decide_eq_true hi, Bool.true_and]
theorem trF_ge {R : List V} {k j i : Nat} (hi : k ≤ i) : bt (trF R k j) i = false := by
  by_cases h : i < 64
  · unfold trF; rw [BM.bt_ofB _ _ _ h, decide_eq_false (by omega), Bool.false_and]
  · exact BM.bt_ge _ (by omega)
section
variable {C D : Nat} {R T : List V}
theorem turnE_is (h : MV C R) : turnE C R = 0 := by unfold turnE; rw [h.yes]; rfl
theorem turnC_is (h : MV C R) : turnC C R = R.length := by unfold turnC; rw [h.yes]; rfl
theorem turnR_is (h : MV C R) : turnR C R = tab C (trF R R.length) := by unfold turnR; rw [h.yes, Int.toNat_natCast]; rfl
theorem turn_mv (h : MV C R) : MV R.length (tab C (trF R R.length)) :=
  ⟨h.r1, h.r2, by rw [tab_len]; exact h.c1, by rw [tab_len]; exact h.c2, fun j hj => by
    rw [tab_len] at hj
    rw [el_tab _ _ _ hj, fitB_iff]
    exact fun k hk => trF_ge hk⟩
theorem turn_turn (h : MV C R) : tab R.length (trF (tab C (trF R R.length)) C) = R := by
  refine el_ext (tab_len _ _) (fun j hj => ?_)
  rw [tab_len] at hj
  rw [el_tab _ _ _ hj]
  refine BM.bt_ext (fun i _ => ?_)
  by_cases hi : i < C
  · rw [trF_bt hi h.c2, el_tab _ _ _ hi, trF_bt hj h.r2]
  · rw [trF_ge (by omega), (fitB_iff _ _).1 (h.fit j hj) i (by omega)]
theorem rank_turn (h : MV C R) : rankN R.length (tab C (trF R R.length)) = rankN C R := by
  have ht := turn_mv h
  have hc := h.c2
  have hr := h.r2
  apply Nat.le_antisymm
  · refine rank_least ht ?_
    have := (rank_fac h).turn
    rw [tab_len]
    exact this.congr (fun i hi k hk => by
      show bt (el (tab C (trF R R.length)) i) k = bt (el R k) i
      rw [el_tab _ _ _ hi, trF_bt hk hr])
  · refine rank_least h ?_
    have := (rank_fac ht).turn
    rw [tab_len] at this
    exact this.congr (fun i hi k hk => by
      show bt (el R i) k = bt (el (tab C (trF R R.length)) k) i
      rw [el_tab _ _ _ hk, trF_bt hi hr])
/-- Mul. -/
theorem mulE_is (h : MV C R) (k : MV D T) (e : C = T.length) : mulE C D R T = 0 := by unfold mulE; rw [h.yes, k.yes, Bool.true_and, if_pos rfl, if_pos (by omega)]
theorem mulC_is (h : MV C R) (k : MV D T) (e : C = T.length) : mulC C D R T = D := by unfold mulC; rw [mulE_is h k e, if_pos rfl]
theorem mulR_is (h : MV C R) (k : MV D T) (e : C = T.length) : mulR C D R T = tab R.length (fun i => BM.comb (el T) (el R i) T.length) := by unfold mulR; rw [mulE_is h k e, if_pos rfl]
theorem comb_fit (d : V) (k : MV D T) : fitB (BM.comb (el T) d T.length) D = true := by
  rw [fitB_iff]
  intro j hj
  rw [BM.bt_comb]
  exact BM.xs_false (fun i hi => by rw [(fitB_iff _ _).1 (k.fit i hi) j hj, Bool.and_false])
theorem mul_mv (h : MV C R) (k : MV D T) : MV D (tab R.length (fun i => BM.comb (el T) (el R i) T.length)) :=
  ⟨k.c1, k.c2, by rw [tab_len]; exact h.r1, by rw [tab_len]; exact h.r2, fun j hj => by
    rw [tab_len] at hj
    rw [el_tab _ _ _ hj]
    exact comb_fit _ k⟩
theorem mul_rank (h : MV C R) (k : MV D T) (e : C = T.length) : rankN D (tab R.length (fun i => BM.comb (el T) (el R i) T.length)) ≤ rankN C R ∧ rankN D (tab R.length (fun i => BM.comb (el T) (el R i) T.length)) ≤ rankN D T := by
  have hm := mul_mv h k
  have hb : ∀ i, i < R.length → ∀ q, q < D → bits2 (tab R.length (fun i => BM.comb (el T) (el R i) T.length)) i q = xs C (fun j => bits2 R i j && bits2 T j q) := fun i hi q _ => by
    unfold bits2
    rw [el_tab _ _ _ hi, BM.bt_comb, e]
  constructor
  · refine rank_least hm ?_
    rw [tab_len]
    exact (Fac.mul_l (rank_fac h)).congr hb
  · refine rank_least hm ?_
    rw [tab_len]
    have := rank_fac k
    rw [← e] at this
    exact (Fac.mul_r this).congr hb
/-- The product of turned matrices is the turned product. -/
theorem turn_mul (h : MV C R) (k : MV D T) (e : C = T.length) :
    tab D (trF (tab R.length (fun i => BM.comb (el T) (el R i) T.length)) R.length) = tab D (fun i => BM.comb (el (tab C (trF R R.length))) (el (tab D (trF T T.length)) i) C) := by
  refine tab_ext (fun i hi => ?_)
  refine BM.bt_ext (fun q hq64 => ?_)
  rw [BM.bt_comb, el_tab _ _ _ hi]
  have hc := h.c2
  have hr := h.r2
  by_cases hq : q < R.length
  · rw [trF_bt hq hr, el_tab _ _ _ hq, BM.bt_comb, ← e]
    refine BM.xs_congr (fun j hj => ?_)
    rw [el_tab _ _ _ hj, trF_bt hj hc, trF_bt hq hr, Bool.and_comm]
  · rw [trF_ge (by omega)]
    exact (BM.xs_false (fun j hj => by rw [el_tab _ _ _ hj, trF_ge (R := R) (show R.length ≤ q by omega), Bool.and_false])).symm
end

section
variable {C : Nat} {R : List V}
/-- All columns are pivots. -/
theorem piv_all {m : Nat} {s : St} (h : Inv m C s) (hn : s.P.length = C) : ∀ i, i < C → pe s.P i = i := by
  have lo : ∀ i, i < C → i ≤ pe s.P i := fun i => by
    induction i with
    | zero => intro _; exact Nat.zero_le _
    | succ i ih => intro hi; have := ih (by omega); have := h.asc i (i + 1) (Nat.lt_succ_self i) (by omega); omega
  have hi : ∀ t i, i + t + 1 = C → pe s.P i ≤ i := fun t => by
    induction t with
    | zero => intro i e; have := h.lt i (by omega); omega
    | succ t ih => intro i e; have := ih (i + 1) (by omega); have := h.asc i (i + 1) (Nat.lt_succ_self i) (by omega); omega
  intro i hi'
  have := lo i hi'
  have := hi (C - 1 - i) i (by omega)
  omega
theorem sv_fit (h : MV C R) (r : Nat → V) : ∀ j, j < R.length → ∀ k, C ≤ k → bt ((sv C R r).R j) k = false := fun j hj k hk =>
  (sv_lin C R r (fun a => bt a k) (fun _ => false) (fun a b => BM.bt_xor a b k) no_lin).2 (fun i hi => (fitB_iff _ _).1 (h.fit i hi) k hk) j hj
/-- The rows have become those of the unit matrix. -/
theorem sv_unit (h : MV C R) (r : Nat → V) (hn : (sv C R r).P.length = C) (hR : R.length = C) : ∀ j, j < C → (sv C R r).R j = unitF j := by
  have hi := sv_inv C R r
  have hp := piv_all hi hn
  intro j hj
  refine BM.bt_ext (fun k hk => ?_)
  rw [unitF_bt _ _ hk]
  by_cases hkC : k < C
  · by_cases e : k = j
    · subst e
      have := hi.one k (by omega)
      rw [hp k hkC] at this
      rw [this, decide_eq_true rfl]
    · have := hi.off k (by omega) j (by omega) (fun e2 => e e2.symm)
      rw [hp k hkC] at this
      rw [this, decide_eq_false e]
  · rw [sv_fit h r j (by omega) k (by omega), decide_eq_false (by omega)]
theorem right_fit (h : MV C R) : ∀ j, j < R.length → fitB ((sv C R unitF).r j) R.length = true := fun j hj => by
  have hr := h.r2
  rw [fitB_iff]
  intro k hk
  exact ((sv_lin C R unitF (fun _ => false) (fun a => bt a k) no_lin (fun a b => BM.bt_xor a b k)).2 (fun i hi => by
    show false = bt (unitF i) k
    unfold unitF
    rw [BM.bt_shl, decide_eq_false (by omega)]) j hj).symm
/-- What Inverse answers. -/
theorem inv_facts (h : MV C R) (hR : R.length = C) : (invE C R = 0 ↔ rankN C R = C) ∧ (invE C R ≠ 0 → invE C R = 6) ∧
    (invE C R = 0 → invC C R = C ∧ ∃ I, invR C R = I ∧ I.length = C ∧ MV C I ∧ (∀ v : V, fitB v C = true → BM.app (el I) C (BM.app (el R) C v) = v) ∧ (∀ i, i < C → BM.comb (el R) (el I i) C = unitF i)) := by
  have hC := h.c2
  have hlen := (sv_inv C R unitF).len
  have hE : invE C R = if (sv C R unitF).P.length < C then 6 else 0 := by
    unfold invE
    rw [h.yes, if_pos rfl, if_pos (by omega), Int.toNat_natCast]
  have hrk : rankN C R = (sv C R unitF).P.length := by rw [rankN_is h]; exact congrArg List.length (sv_same (fun _ => 0) unitF).2
  refine ⟨?_, ?_, ?_⟩
  · rw [hE, hrk]
    split
    · constructor
      · intro e; cases e
      · intro e; omega
    · constructor
      · intro _; omega
      · intro _; rfl
  · rw [hE]
    split
    · intro _; rfl
    · intro e; exact absurd rfl e
  · intro e0
    have hn : (sv C R unitF).P.length = C := by
      rw [hE] at e0
      split at e0
      · cases e0
      · omega
    have hu := sv_unit h unitF hn hR
    have hcb := sv_comb (C := C) (R := R) h.r2
    rw [hR] at hcb
    have hI : invR C R = tab R.length (sv C R unitF).r := by unfold invR; rw [if_pos e0, Int.toNat_natCast]
    refine ⟨by unfold invC; rw [if_pos e0], _, hI, by rw [tab_len]; exact hR, ⟨h.c1, hC, by rw [tab_len]; exact h.r1, by rw [tab_len]; exact h.r2, fun j hj => ?_⟩, fun v hv => ?_, fun i hi => ?_⟩
    · rw [tab_len] at hj
      rw [el_tab _ _ _ hj]
      have := right_fit h j hj
      rwa [hR] at this
    · refine BM.bt_ext (fun k hk64 => ?_)
      by_cases hk : k < C
      · rw [BM.bt_app hk hC, el_tab _ _ _ (by omega), ← BM.dot_comb _ _ _ _ hC, hcb k hk, hu k hk]
        unfold dot
        rw [BM.xs_one (k := k) hk64 (fun b hb hne => by rw [unitF_bt _ _ hb, decide_eq_false hne, Bool.false_and]), unitF_bt _ _ hk64, decide_eq_true rfl, Bool.true_and]
      · rw [BM.bt_app_ge (by omega), (fitB_iff _ _).1 hv k (by omega)]
    · rw [el_tab _ _ _ (by omega), hcb i hi, hu i hi]
end
end Go.Proofs.Ytodiokladojnjaa.B
