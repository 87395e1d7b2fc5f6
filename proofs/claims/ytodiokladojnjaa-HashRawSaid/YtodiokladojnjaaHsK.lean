/- Hash, ahead of its stage: masks that are one to one: plain mathematics over BMath. -/
import Derived.Test.YtodiokladojnjaaBMath
namespace Go.Proofs.Ytodiokladojnjaa.HS
open BM

theorem dot_comm (a b : V) : dot a b = dot b a := by unfold dot; exact xs_congr (fun i _ => Bool.and_comm _ _)
theorem bt_one (p k : Nat) : bt (1#64 <<< p) k = decide (k = p ∧ k < 64) := by
  unfold bt
  rw [BitVec.getLsbD_shiftLeft]
  by_cases h : k < 64
  · by_cases e : k = p
    · subst e; simp [h]
    · by_cases g : k < p
      · simp [h, g, e]
      · have : ¬ (k - p = 0) := by omega
        simp [h, g, e, BitVec.getLsbD_one, this]
  · simp [h]
theorem dot_one {b : Nat} (hb : b < 64) (a : V) : dot (1#64 <<< b) a = bt a b := by
  unfold dot
  rw [xs_one (k := b) hb (fun i _ hne => by rw [bt_one, decide_eq_false (fun h => hne h.1), Bool.false_and]), bt_one, decide_eq_true ⟨rfl, hb⟩, Bool.true_and]
/-- d has no bit from b on. -/
def Fits (b : Nat) (d : V) : Prop := ∀ k, b ≤ k → bt d k = false
theorem Fits.xor {b : Nat} {d e : V} (h : Fits b d) (g : Fits b e) : Fits b (d ^^^ e) := fun k hk => by rw [bt_xor, h k hk, g k hk]; rfl
theorem fits_zero (b : Nat) : Fits b 0 := fun k _ => bt_zero k
/-- Only 0 has nothing in common with all masks. -/
def K0 (b : Nat) (R : Nat → V) : Prop := ∀ d, Fits b d → (∀ j, j < b → dot (R j) d = false) → d = 0
theorem K0.unit {b : Nat} (hb : b ≤ 64) : K0 b (fun j => 1#64 <<< j) := fun d hf h => bt_ext (fun k hk => by
  rw [bt_zero]
  by_cases hk2 : k < b
  · rw [← dot_one (by omega) d]; exact h k hk2
  · exact hf k (by omega))
theorem K0.op {b i k : Nat} {R : Nat → V} (h : K0 b R) (hi : i < b) (hk : k < b) (hne : i ≠ k) : K0 b (fun j => if j = i then R i ^^^ R k else R j) := fun d hf hd => by
  refine h d hf (fun j hj => ?_)
  have hk1 := hd k hk
  simp only [if_neg (fun e : k = i => hne e.symm)] at hk1
  by_cases e : j = i
  · subst e
    have := hd j hj
    simp only [if_true] at this
    rw [dot_xor_l, hk1, Bool.xor_false] at this
    exact this
  · have := hd j hj
    simp only [if_neg e] at this
    exact this
/-- **One to one.** -/
theorem K0.inj {b : Nat} {R : Nat → V} (h : K0 b R) {d e : V} (hd : Fits b d) (he : Fits b e) (hv : ∀ j, j < b → dot (R j) d = dot (R j) e) : d = e := by
  have h0 := h (d ^^^ e) (hd.xor he) (fun j hj => by rw [dot_xor_r, hv j hj, Bool.xor_self])
  refine bt_ext (fun k _ => ?_)
  have := congrArg (fun v => bt v k) h0
  simp only [bt_xor, bt_zero] at this
  revert this
  cases bt d k <;> cases bt e k <;> simp
/-- What a mask without bits from b on has in common depends on the lower bits alone. -/
theorem dot_low {b : Nat} {m d e : V} (hm : Fits b m) (h : ∀ k, k < b → bt d k = bt e k) : dot m d = dot m e := by
  unfold dot
  refine xs_congr (fun i _ => ?_)
  by_cases hi : i < b
  · rw [h i hi]
  · rw [hm i (by omega), Bool.false_and, Bool.false_and]
end Go.Proofs.Ytodiokladojnjaa.HS
