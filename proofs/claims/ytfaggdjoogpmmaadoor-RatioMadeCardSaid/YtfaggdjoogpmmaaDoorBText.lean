/- What nat.Print writes is read by nat.Parse. -/
import Derived.Test.YtfaggdjoogpmmaaDoorBParse
import Derived.Test.YtfaggdjoogpmmaaDoorB10
namespace Go.Proofs.YtfaggdjoogpmmaaDoor
open Go Go.RowKit Go.Shelf

def dvalN (l : List Nat) : Nat := l.foldl (fun v c => v * 10 + (c - 48)) 0
theorem dvalN_snoc (l : List Nat) (c : Nat) : dvalN (l ++ [c]) = dvalN l * 10 + (c - 48) := by unfold dvalN; rw [List.foldl_append]; rfl
theorem dvalN_dg (k g : Nat) : dvalN (M.dg k g).reverse = g % 10 ^ k := by
  induction k generalizing g with
  | zero => rw [Nat.pow_zero, Nat.mod_one]; rfl
  | succ k ih =>
    rw [M.dg, List.reverse_cons, dvalN_snoc, ih, Nat.pow_succ, Nat.mul_comm (10 ^ k) 10, Nat.mod_mul]
    omega
theorem dvalN_drop (l : List Nat) : dvalN (l.dropWhile (· == 48)) = dvalN l := by
  induction l with
  | nil => rfl
  | cons c l ih =>
    by_cases h : c = 48
    · subst h; rw [List.dropWhile_cons_of_pos rfl, ih]; rfl
    · rw [List.dropWhile_cons_of_neg (by simpa using h)]
theorem dval_map (l : List Nat) (h : ∀ b ∈ l, b < 256) : dval (l.map UInt8.ofNat) = dvalN l := by
  unfold dval dvalN
  generalize 0 = v
  induction l generalizing v with
  | nil => rfl
  | cons c l ih =>
    have hc := h c (List.mem_cons_self ..)
    simp only [List.map_cons, List.foldl_cons]
    rw [ih (fun b hb => h b (List.mem_cons_of_mem _ hb))]
    congr 2
    rw [UInt8.toNat_ofNat']; omega
theorem mem_dropWhile {p : Nat → Bool} {l : List Nat} {b : Nat} (h : b ∈ l.dropWhile p) : b ∈ l := (List.dropWhile_sublist p).mem h
theorem decs_byte (k n : Nat) : ∀ b ∈ M.decs k n, 48 ≤ b ∧ b ≤ 57 := fun b hb => M.dg_byte k n b (by have := mem_dropWhile hb; simpa using this)
theorem dvalN_decs {k n : Nat} (h : n < 10 ^ k) : dvalN (M.decs k n) = n := by
  unfold M.decs; rw [dvalN_drop, dvalN_dg, Nat.mod_eq_of_lt h]
theorem decs_len (k n : Nat) : (M.decs k n).length ≤ k := by
  unfold M.decs
  have := (List.dropWhile_sublist (l := (M.dg k n).reverse) (· == 48)).length_le
  rw [List.length_reverse, M.dg_len] at this
  exact this
theorem decs_head {k n : Nat} : (M.decs k n).head? ≠ some 48 := by
  unfold M.decs
  intro h
  have := List.head?_dropWhile_not (· == 48) (M.dg k n).reverse
  rw [h] at this
  simp at this

/-- The text of n. -/
def TextOf (n : Nat) (s : ByteArray) : Prop := decB s = true ∧ dval s.data.toList = n

theorem text_decs {k n : Nat} (h0 : 0 < n) (h : n < 10 ^ k) : TextOf n ⟨((M.decs k n).map UInt8.ofNat).toArray⟩ := by
  have hb := decs_byte k n
  refine ⟨?_, by rw [List.toList_toArray, dval_map _ (fun b hm => by have := hb b hm; omega), dvalN_decs h]⟩
  unfold decB
  simp only
  have hall : ((M.decs k n).map UInt8.ofNat).all digB = true := by
    rw [List.all_eq_true]
    intro c hc
    obtain ⟨b, hm, rfl⟩ := List.mem_map.1 hc
    have := hb b hm
    unfold digB
    rw [UInt8.toNat_ofNat', Bool.and_eq_true, decide_eq_true_eq, decide_eq_true_eq]; omega
  have hne : (M.decs k n).map UInt8.ofNat ≠ [] := by
    intro e
    have : M.decs k n = [] := List.map_eq_nil_iff.1 e
    have h1 := dvalN_decs h
    rw [this] at h1
    have : dvalN [] = 0 := rfl
    omega
  have hh : ((M.decs k n).map UInt8.ofNat).head? ≠ some 48 := by
    rw [List.head?_map]
    cases hd : (M.decs k n).head? with
    | none => simp
    | some b =>
      have hm : b ∈ M.decs k n := List.mem_of_head? hd
      have h1 := hb b hm
      have h2 := decs_head (k := k) (n := n)
      rw [hd] at h2
      intro e
      apply h2
      have := congrArg UInt8.toNat (Option.some.inj e)
      rw [UInt8.toNat_ofNat'] at this
      have h48 : (48 : UInt8).toNat = 48 := rfl
      rw [h48] at this
      congr 1; omega
  rw [hall, decide_eq_true hne, decide_eq_true hh]
  simp

theorem text_zero : TextOf 0 ⟨#[48]⟩ := ⟨rfl, rfl⟩

set_option maxRecDepth 100000 in
set_option maxHeartbeats 1000000 in
theorem print_zero (a : Option Addr) (cap : Nat) (w : World) (hR : Row w a [] cap) :
    Calls Tryd.prog 39 #[.agg #[.slice a 0 cap]] w fun e W' => e = .returned (.string ⟨#[48]⟩) ∧ Below w.heap.size w W' := by
  have hb1 := (Below.refl _ w).alloc (Nat.le_refl _) (.cells #[.slice a 0 cap] 24)
  have c0 := cell_new w (.slice a 0 cap) 24
  have HV := Lib.hid (valid_yes a [] cap _ (hR.below hb1) (by have := vld_dig (n := 0) (by rw [M.dig_zero]; simp); rwa [M.dig_zero] at this))
  have HB1 := Lib.hid hb1
  clear hb1 hR
  go_enter Tryd.func39, Tryd.ntmps39
  go_wp2_with fail
  refine HV.out.mono ?_
  rintro e w2 ⟨rfl, hb2⟩
  have c2 := (hb2.cell (p := ⟨w.heap.size, 0, none⟩) (by simp)).trans c0
  have HB2 := Lib.hid (HB1.out.trans (hb2.mono (by simp)))
  clear hb2 c0
  go_wp2_with fail
  go_ret
  exact ⟨rfl, HB2.out⟩

/-- **nat.Print**, of numbers below 10^j. -/
theorem print_text (a : Option Addr) (cap n j : Nat) (w : World) (hj : n < 10 ^ j) (hj1 : 1 ≤ j) (hlen : (M.dig n).length ≤ 200) (hR : Row w a (M.dig n) cap) :
    Calls Tryd.prog 39 #[.agg #[.slice a (M.dig n).length cap]] w fun e W' => (∃ s, e = .returned (.string s) ∧ TextOf n s ∧ s.size ≤ j) ∧ Below w.heap.size w W' := by
  rcases Nat.eq_zero_or_pos n with rfl | h0
  · rw [M.dig_zero] at hR ⊢
    exact (print_zero a cap w hR).mono fun e W' ⟨he, hb⟩ => ⟨⟨_, he, text_zero, hj1⟩, hb⟩
  · refine (print_pos a cap n w h0 hlen hR).mono ?_
    rintro e W' ⟨⟨k, hk, rfl⟩, hb⟩
    refine ⟨⟨_, rfl, text_decs h0 hk, ?_⟩, hb⟩
    rw [M.decs_any hk hj]
    have := decs_len j n
    simpa [ByteArray.size] using this
end Go.Proofs.YtfaggdjoogpmmaaDoor
