/- What the functions of nat and of the reference return, of any two lists of limbs. -/
import Derived.Test.YtfaggdjoogpmmaaDoorBBadNat
import Derived.Test.YtfaggdjoogpmmaaDoorBMakeAll
import Derived.Test.YtfaggdjoogpmmaaDoorBRefInt
import Derived.Test.YtfaggdjoogpmmaaDoorBRefPrint
import Derived.Test.YtfaggdjoogpmmaaDoorBRefSub
import Derived.Test.YtfaggdjoogpmmaaDoorBRefMul
import Derived.Test.YtfaggdjoogpmmaaDoorBText
import Derived.Test.YtfaggdjoogpmmaaDoorB10
namespace Go.Proofs.YtfaggdjoogpmmaaDoor
open Go Go.RowKit Go.Shelf

/-- The result is the number n, as its limbs stand, and the error E. -/
def NRes (E : Int) (n : Nat) (e : Ending) (W : World) : Prop := ∃ s c k, e = .returned (.tuple #[.agg #[.slice s (M.dig k).length c], .int .i64 E]) ∧ Row W s (M.dig k) c ∧ k = n
theorem NRes.none {E : Int} {W : World} : NRes E 0 (.returned (.tuple #[.agg #[.slice none 0 0], .int .i64 E])) W :=
  ⟨Option.none, 0, 0, by rw [M.dig_zero]; rfl, row_nil W, rfl⟩
theorem Num.res {W : World} {v : Value} {n : Nat} {E : Int} (h : Num W v n) : NRes E n (.returned (.tuple #[v, .int .i64 E])) W := by
  obtain ⟨a, c, rfl, hr⟩ := h
  exact ⟨a, c, n, rfl, hr, rfl⟩
def limE (n : Nat) : Int := if (M.dig n).length ≤ 200 then 0 else 3
def limN (n : Nat) : Nat := if (M.dig n).length ≤ 200 then n else 0
theorem NatRes.res {n : Nat} {e : Ending} {W : World} (h : NatRes n e W) : NRes (limE n) (limN n) e W := by
  unfold limE limN
  by_cases hl : (M.dig n).length ≤ 200
  · obtain ⟨v, rfl, hv⟩ := h.ok hl
    rw [if_pos hl, if_pos hl]; exact hv.res
  · rw [h.limit hl, if_neg hl, if_neg hl]; exact NRes.none

/-- Two functions of two numbers return the same. -/
def Both (f g : FuncId) (zs ys : List Int) : Prop := ∃ (E : Int) (n : Nat),
  (∀ (a b : Option Addr) (ca cb : Nat) (w : World), Row w a zs ca → Row w b ys cb → Calls Tryd.prog f #[.agg #[.slice a zs.length ca], .agg #[.slice b ys.length cb]] w fun e W' => NRes E n e W' ∧ Below w.heap.size w W') ∧
  (∀ (a b : Option Addr) (ca cb : Nat) (w : World), Row w a zs ca → Row w b ys cb → Calls Tryd.prog g #[.agg #[.slice a zs.length ca], .agg #[.slice b ys.length cb]] w fun e W' => NRes E n e W' ∧ Below w.heap.size w W')
theorem both_bad {f g : FuncId} {zs ys : List Int} {E : Int}
    (h1 : ∀ (a b : Option Addr) (ca cb : Nat) (w : World), Row w a zs ca → Row w b ys cb → Calls Tryd.prog f #[.agg #[.slice a zs.length ca], .agg #[.slice b ys.length cb]] w fun e W' => e = .returned (.tuple #[.agg #[.slice none 0 0], .int .i64 E]) ∧ Below w.heap.size w W')
    (h2 : ∀ (a b : Option Addr) (ca cb : Nat) (w : World), Row w a zs ca → Row w b ys cb → Calls Tryd.prog g #[.agg #[.slice a zs.length ca], .agg #[.slice b ys.length cb]] w fun e W' => e = .returned (.tuple #[.agg #[.slice none 0 0], .int .i64 E]) ∧ Below w.heap.size w W') : Both f g zs ys :=
  ⟨E, 0, fun a b ca cb w hA hB => (h1 a b ca cb w hA hB).mono fun _ _ ⟨he, hb⟩ => ⟨he ▸ NRes.none, hb⟩, fun a b ca cb w hA hB => (h2 a b ca cb w hA hB).mono fun _ _ ⟨he, hb⟩ => ⟨he ▸ NRes.none, hb⟩⟩
theorem add_both (zs ys : List Int) : Both 26 27 zs ys := by
  by_cases h : Vld zs ∧ Vld ys
  · obtain ⟨x, rfl, hx⟩ := vld_num h.1
    obtain ⟨y, rfl, hy⟩ := vld_num h.2
    exact ⟨_, _, fun a b ca cb w hA hB => (add_num hx hy ⟨a, ca, rfl, hA⟩ ⟨b, cb, rfl, hB⟩).mono fun _ _ ⟨he, hb⟩ => ⟨he.res, hb⟩, fun a b ca cb w hA hB => (radd_num hx hy ⟨a, ca, rfl, hA⟩ ⟨b, cb, rfl, hB⟩).mono fun _ _ ⟨he, hb⟩ => ⟨he.res, hb⟩⟩
  · exact both_bad (fun a b ca cb w hA hB => add_bad a b ca cb zs ys w hA hB h) (fun a b ca cb w hA hB => radd_bad a b ca cb zs ys w hA hB h)
theorem mul_both (zs ys : List Int) : Both 28 29 zs ys := by
  by_cases h : Vld zs ∧ Vld ys
  · obtain ⟨x, rfl, hx⟩ := vld_num h.1
    obtain ⟨y, rfl, hy⟩ := vld_num h.2
    exact ⟨_, _, fun a b ca cb w hA hB => (mul_num hx hy ⟨a, ca, rfl, hA⟩ ⟨b, cb, rfl, hB⟩).mono fun _ _ ⟨he, hb⟩ => ⟨he.res, hb⟩, fun a b ca cb w hA hB => (rmul_num hx hy ⟨a, ca, rfl, hA⟩ ⟨b, cb, rfl, hB⟩).mono fun _ _ ⟨he, hb⟩ => ⟨he.res, hb⟩⟩
  · exact both_bad (fun a b ca cb w hA hB => mul_bad a b ca cb zs ys w hA hB h) (fun a b ca cb w hA hB => rmul_bad a b ca cb zs ys w hA hB h)
theorem sub_two (zs ys : List Int) : Both 43 63 zs ys := by
  by_cases h : Vld zs ∧ Vld ys
  · obtain ⟨x, rfl, hx⟩ := vld_num h.1
    obtain ⟨y, rfl, hy⟩ := vld_num h.2
    rcases Nat.lt_or_ge x y with hlt | hle
    · exact both_bad (fun a b ca cb w hA hB => sub_lt a b ca cb x y w hx hy hA hB hlt) (fun a b ca cb w hA hB => rsub_lt a b ca cb x y w hx hy hA hB hlt)
    · exact ⟨_, _, fun a b ca cb w hA hB => (sub_ge a b ca cb x y w hx hy hA hB hle).mono fun _ _ ⟨he, hb⟩ => ⟨he.res, hb⟩, fun a b ca cb w hA hB => (rsub_ge a b ca cb x y w hx hy hA hB hle).mono fun _ _ ⟨he, hb⟩ => ⟨he.res, hb⟩⟩
  · exact both_bad (fun a b ca cb w hA hB => sub_bad a b ca cb zs ys w hA hB h) (fun a b ca cb w hA hB => rsub_bad a b ca cb zs ys w hA hB h)
theorem gcd_both (zs ys : List Int) : Both 44 65 zs ys := by
  by_cases h : Vld zs ∧ Vld ys
  · obtain ⟨x, rfl, hx⟩ := vld_num h.1
    obtain ⟨y, rfl, hy⟩ := vld_num h.2
    exact ⟨0, _, fun a b ca cb w hA hB => (gcd_any a b ca cb x y w hx hy hA hB).mono fun _ _ ⟨⟨_, he, hv⟩, hb⟩ => ⟨he ▸ hv.res, hb⟩, fun a b ca cb w hA hB => (rgcd_any a b ca cb x y w hx hy hA hB).mono fun _ _ ⟨⟨_, he, hv⟩, hb⟩ => ⟨he ▸ hv.res, hb⟩⟩
  · exact both_bad (fun a b ca cb w hA hB => gcd_bad a b ca cb zs ys w hA hB h) (fun a b ca cb w hA hB => rgcd_bad a b ca cb zs ys w hA hB h)

/-- Two numbers and an error. -/
def DRes (E : Int) (q r : Nat) (e : Ending) (W : World) : Prop := ∃ s c t d k l, e = .returned (.tuple #[.agg #[.slice s (M.dig k).length c], .agg #[.slice t (M.dig l).length d], .int .i64 E]) ∧ Row W s (M.dig k) c ∧ Row W t (M.dig l) d ∧ k = q ∧ l = r
theorem DRes.none {E : Int} {W : World} : DRes E 0 0 (.returned (.tuple #[.agg #[.slice none 0 0], .agg #[.slice none 0 0], .int .i64 E])) W :=
  ⟨Option.none, 0, Option.none, 0, 0, 0, by rw [M.dig_zero]; rfl, row_nil W, row_nil W, rfl, rfl⟩
theorem div_both (zs ys : List Int) : ∃ (E : Int) (q r : Nat),
    (∀ (a b : Option Addr) (ca cb : Nat) (w : World), Row w a zs ca → Row w b ys cb → Calls Tryd.prog 40 #[.agg #[.slice a zs.length ca], .agg #[.slice b ys.length cb]] w fun e W' => DRes E q r e W' ∧ Below w.heap.size w W') ∧
    (∀ (a b : Option Addr) (ca cb : Nat) (w : World), Row w a zs ca → Row w b ys cb → Calls Tryd.prog 64 #[.agg #[.slice a zs.length ca], .agg #[.slice b ys.length cb]] w fun e W' => DRes E q r e W' ∧ Below w.heap.size w W') := by
  by_cases h : Vld zs ∧ Vld ys
  · obtain ⟨x, rfl, hx⟩ := vld_num h.1
    obtain ⟨y, rfl, hy⟩ := vld_num h.2
    rcases Nat.eq_zero_or_pos y with rfl | hy0
    · refine ⟨4, 0, 0, fun a b ca cb w hA hB => ?_, fun a b ca cb w hA hB => (rdiv_zero a b ca cb x w hx hA hB).mono fun _ _ ⟨he, hb⟩ => ⟨he ▸ DRes.none, hb⟩⟩
      have hc := divide_zero a b ca cb x w hx hA (by rwa [M.dig_zero] at hB)
      rw [show (M.dig 0).length = 0 by rw [M.dig_zero]; rfl]
      exact hc.mono fun _ _ ⟨he, hb⟩ => ⟨he ▸ DRes.none, hb⟩
    · exact ⟨0, _, _, fun a b ca cb w hA hB => (divide_any a b ca cb x y w hy0 hx hy hA hB).mono fun _ _ ⟨⟨a1, c1, a2, c2, he, h1, h2⟩, hb⟩ => ⟨⟨a1, c1, a2, c2, _, _, he, h1, h2, rfl, rfl⟩, hb⟩,
        fun a b ca cb w hA hB => (rdiv_pos a b ca cb x y w hy0 hx hy hA hB).mono fun _ _ ⟨⟨a1, c1, a2, c2, he, h1, h2, _⟩, hb⟩ => ⟨⟨a1, c1, a2, c2, _, _, he, h1, h2, rfl, rfl⟩, hb⟩⟩
  · exact ⟨1, 0, 0, fun a b ca cb w hA hB => (div_bad a b ca cb zs ys w hA hB h).mono fun _ _ ⟨he, hb⟩ => ⟨he ▸ DRes.none, hb⟩, fun a b ca cb w hA hB => (rdiv_bad a b ca cb zs ys w hA hB h).mono fun _ _ ⟨he, hb⟩ => ⟨he ▸ DRes.none, hb⟩⟩
theorem int_both (zs : List Int) : ∃ (v E : Int),
    (∀ (a : Option Addr) (ca : Nat) (w : World), Row w a zs ca → Calls Tryd.prog 46 #[.agg #[.slice a zs.length ca]] w fun e W' => e = .returned (.tuple #[.int .i64 v, .int .i64 E]) ∧ Below w.heap.size w W') ∧
    (∀ (a : Option Addr) (ca : Nat) (w : World), Row w a zs ca → Calls Tryd.prog 66 #[.agg #[.slice a zs.length ca]] w fun e W' => e = .returned (.tuple #[.int .i64 v, .int .i64 E]) ∧ Below w.heap.size w W') := by
  by_cases h : Vld zs
  · obtain ⟨x, rfl, hx⟩ := vld_num h
    by_cases hs : (x : Int) ≤ 4611686018427387904
    · exact ⟨x, 0, fun a ca w hA => int_any a ca x w hs hA, fun a ca w hA => rint_any a ca x w hs hA⟩
    · exact ⟨0, 3, fun a ca w hA => int_big a ca x w (by omega) hx hA, fun a ca w hA => rint_big a ca x w (by omega) hx hA⟩
  · exact ⟨0, 1, fun a ca w hA => int_bad a ca zs w h hA, fun a ca w hA => rint_bad a ca zs w h hA⟩
theorem print_both (zs : List Int) : ∃ S : ByteArray,
    (∀ (a : Option Addr) (ca : Nat) (w : World), Row w a zs ca → Calls Tryd.prog 39 #[.agg #[.slice a zs.length ca]] w fun e W' => e = .returned (.string S) ∧ Below w.heap.size w W') ∧
    (∀ (a : Option Addr) (ca : Nat) (w : World), Row w a zs ca → Calls Tryd.prog 68 #[.agg #[.slice a zs.length ca]] w fun e W' => e = .returned (.string S) ∧ Below w.heap.size w W') := by
  by_cases h : Vld zs
  · obtain ⟨x, rfl, hx⟩ := vld_num h
    rcases Nat.eq_zero_or_pos x with rfl | hx0
    · refine ⟨_, fun a ca w hA => ?_, fun a ca w hA => rprint_zero a ca w hA⟩
      have hc := print_zero a ca w (by rwa [M.dig_zero] at hA)
      rw [show (M.dig 0).length = 0 by rw [M.dig_zero]; rfl]
      exact hc
    · have hK : x < 10 ^ x := Nat.lt_pow_self (by decide)
      exact ⟨_, fun a ca w hA => (print_pos a ca x w hx0 hx hA).mono fun _ _ ⟨he, hb⟩ => ⟨prPost_at he hK, hb⟩, fun a ca w hA => (rprint_pos a ca x w hx0 hx hA).mono fun _ _ ⟨he, hb⟩ => ⟨prPost_at he hK, hb⟩⟩
  · exact ⟨_, fun a ca w hA => print_bad a ca zs w h hA, fun a ca w hA => rprint_bad a ca zs w h hA⟩
end Go.Proofs.YtfaggdjoogpmmaaDoor
