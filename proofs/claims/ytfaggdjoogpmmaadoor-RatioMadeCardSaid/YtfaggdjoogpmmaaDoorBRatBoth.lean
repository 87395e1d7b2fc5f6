/- Both packages answer the same for any two fractions whose numbers are short. -/
import Derived.Test.YtfaggdjoogpmmaaDoorBRatPrn
import Derived.Test.YtfaggdjoogpmmaaDoorBCrossUse
import Derived.Test.YtfaggdjoogpmmaaDoorB10
import Derived.Test.YtfaggdjoogpmmaaDoorBMakeAll
namespace Go.Proofs.YtfaggdjoogpmmaaDoor
open Go Go.RowKit Go.Shelf

/-- Two functions of two fractions return the same. -/
def BothR (f g : FuncId) (z1 z2 y1 y2 : List Int) : Prop := ∃ (E : Int) (n d : Nat),
  (∀ (a1 a2 b1 b2 : Option Addr) (c1 c2 d1 d2 : Nat) (w : World), Row w a1 z1 c1 → Row w a2 z2 c2 → Row w b1 y1 d1 → Row w b2 y2 d2 → Calls Tryd.prog f #[.agg #[.slice a1 z1.length c1, .slice a2 z2.length c2], .agg #[.slice b1 y1.length d1, .slice b2 y2.length d2]] w fun e W' => RRes E n d e W' ∧ Below w.heap.size w W') ∧
  (∀ (a1 a2 b1 b2 : Option Addr) (c1 c2 d1 d2 : Nat) (w : World), Row w a1 z1 c1 → Row w a2 z2 c2 → Row w b1 y1 d1 → Row w b2 y2 d2 → Calls Tryd.prog g #[.agg #[.slice a1 z1.length c1, .slice a2 z2.length c2], .agg #[.slice b1 y1.length d1, .slice b2 y2.length d2]] w fun e W' => RRes E n d e W' ∧ Below w.heap.size w W')
theorem ratAdd_both {z1 z2 y1 y2 : List Int} (hl : RVd z1 z2 ∧ RVd y1 y2 → z1.length + z2.length + y1.length + y2.length ≤ 48) : BothR 56 87 z1 z2 y1 y2 := by
  by_cases h : RVd z1 z2 ∧ RVd y1 y2
  · have hl := hl h
    obtain ⟨x, y, rfl, rfl, hx, hy, hy0, hg1⟩ := h.1.nums
    obtain ⟨z, t, rfl, rfl, hz, ht, ht0, hg2⟩ := h.2.nums
    have lxz := M.dig_len_mul (Nat.le_refl (M.dig x).length) (Nat.le_refl (M.dig z).length)
    have lyt := M.dig_len_mul (Nat.le_refl (M.dig y).length) (Nat.le_refl (M.dig t).length)
    have lxt := M.dig_len_mul (Nat.le_refl (M.dig x).length) (Nat.le_refl (M.dig t).length)
    have lzy := M.dig_len_mul (Nat.le_refl (M.dig z).length) (Nat.le_refl (M.dig y).length)
    have lyz := M.dig_len_mul (Nat.le_refl (M.dig y).length) (Nat.le_refl (M.dig z).length)
    have ladd : (M.dig (x * t + z * y)).length ≤ 200 := by
      have h1 : (M.dig (x * t)).length ≤ 96 := by omega
      have h2 : (M.dig (z * y)).length ≤ 96 := by omega
      have := M.dig_len_add h1 h2
      omega
    exact ⟨0, _, _, fun a1 a2 b1 b2 c1 c2 d1 d2 w h1 h2 h3 h4 => (ratAdd_fit ⟨a1, c1, a2, c2, rfl, h1, h2⟩ ⟨b1, d1, b2, d2, rfl, h3, h4⟩ hx hy hz ht hy0 ht0 hg1 hg2 (by omega) (by omega) (by omega) ladd).mono fun _ _ ⟨⟨_, he, hv⟩, hb⟩ => ⟨he ▸ hv.res, hb⟩, fun a1 a2 b1 b2 c1 c2 d1 d2 w h1 h2 h3 h4 => (rratAdd_fit ⟨a1, c1, a2, c2, rfl, h1, h2⟩ ⟨b1, d1, b2, d2, rfl, h3, h4⟩ hx hy hz ht hy0 ht0 hg1 hg2 (by omega) (by omega) (by omega) ladd).mono fun _ _ ⟨⟨_, he, hv⟩, hb⟩ => ⟨he ▸ hv.res, hb⟩⟩
  · exact ⟨1, 0, 0, fun a1 a2 b1 b2 c1 c2 d1 d2 w h1 h2 h3 h4 => (ratAdd_bad a1 a2 b1 b2 c1 c2 d1 d2 _ _ _ _ w h1 h2 h3 h4 h).mono fun _ _ ⟨he, hb⟩ => ⟨he ▸ RRes.none, hb⟩, fun a1 a2 b1 b2 c1 c2 d1 d2 w h1 h2 h3 h4 => (rratAdd_bad a1 a2 b1 b2 c1 c2 d1 d2 _ _ _ _ w h1 h2 h3 h4 h).mono fun _ _ ⟨he, hb⟩ => ⟨he ▸ RRes.none, hb⟩⟩
theorem ratSub_both {z1 z2 y1 y2 : List Int} (hl : RVd z1 z2 ∧ RVd y1 y2 → z1.length + z2.length + y1.length + y2.length ≤ 48) : BothR 58 88 z1 z2 y1 y2 := by
  by_cases h : RVd z1 z2 ∧ RVd y1 y2
  · have hl := hl h
    obtain ⟨x, y, rfl, rfl, hx, hy, hy0, hg1⟩ := h.1.nums
    obtain ⟨z, t, rfl, rfl, hz, ht, ht0, hg2⟩ := h.2.nums
    have lxz := M.dig_len_mul (Nat.le_refl (M.dig x).length) (Nat.le_refl (M.dig z).length)
    have lyt := M.dig_len_mul (Nat.le_refl (M.dig y).length) (Nat.le_refl (M.dig t).length)
    have lxt := M.dig_len_mul (Nat.le_refl (M.dig x).length) (Nat.le_refl (M.dig t).length)
    have lzy := M.dig_len_mul (Nat.le_refl (M.dig z).length) (Nat.le_refl (M.dig y).length)
    have lyz := M.dig_len_mul (Nat.le_refl (M.dig y).length) (Nat.le_refl (M.dig z).length)
    have ladd : (M.dig (x * t + z * y)).length ≤ 200 := by
      have h1 : (M.dig (x * t)).length ≤ 96 := by omega
      have h2 : (M.dig (z * y)).length ≤ 96 := by omega
      have := M.dig_len_add h1 h2
      omega
    rcases Nat.lt_or_ge (x * t) (z * y) with hlt | hle
    · exact ⟨5, 0, 0, fun a1 a2 b1 b2 c1 c2 d1 d2 w h1 h2 h3 h4 => (ratSub_lt ⟨a1, c1, a2, c2, rfl, h1, h2⟩ ⟨b1, d1, b2, d2, rfl, h3, h4⟩ hx hy hz ht hy0 ht0 hg1 hg2 (by omega) (by omega) (by omega) hlt).mono fun _ _ ⟨he, hb⟩ => ⟨he ▸ RRes.none, hb⟩, fun a1 a2 b1 b2 c1 c2 d1 d2 w h1 h2 h3 h4 => (rratSub_lt ⟨a1, c1, a2, c2, rfl, h1, h2⟩ ⟨b1, d1, b2, d2, rfl, h3, h4⟩ hx hy hz ht hy0 ht0 hg1 hg2 (by omega) (by omega) (by omega) hlt).mono fun _ _ ⟨he, hb⟩ => ⟨he ▸ RRes.none, hb⟩⟩
    · exact ⟨0, _, _, fun a1 a2 b1 b2 c1 c2 d1 d2 w h1 h2 h3 h4 => (ratSub_ge ⟨a1, c1, a2, c2, rfl, h1, h2⟩ ⟨b1, d1, b2, d2, rfl, h3, h4⟩ hx hy hz ht hy0 ht0 hg1 hg2 (by omega) (by omega) (by omega) hle).mono fun _ _ ⟨⟨_, he, hv⟩, hb⟩ => ⟨he ▸ hv.res, hb⟩, fun a1 a2 b1 b2 c1 c2 d1 d2 w h1 h2 h3 h4 => (rratSub_ge ⟨a1, c1, a2, c2, rfl, h1, h2⟩ ⟨b1, d1, b2, d2, rfl, h3, h4⟩ hx hy hz ht hy0 ht0 hg1 hg2 (by omega) (by omega) (by omega) hle).mono fun _ _ ⟨⟨_, he, hv⟩, hb⟩ => ⟨he ▸ hv.res, hb⟩⟩
  · exact ⟨1, 0, 0, fun a1 a2 b1 b2 c1 c2 d1 d2 w h1 h2 h3 h4 => (ratSub_bad a1 a2 b1 b2 c1 c2 d1 d2 _ _ _ _ w h1 h2 h3 h4 h).mono fun _ _ ⟨he, hb⟩ => ⟨he ▸ RRes.none, hb⟩, fun a1 a2 b1 b2 c1 c2 d1 d2 w h1 h2 h3 h4 => (rratSub_bad a1 a2 b1 b2 c1 c2 d1 d2 _ _ _ _ w h1 h2 h3 h4 h).mono fun _ _ ⟨he, hb⟩ => ⟨he ▸ RRes.none, hb⟩⟩
theorem ratMul_both {z1 z2 y1 y2 : List Int} (hl : RVd z1 z2 ∧ RVd y1 y2 → z1.length + z2.length + y1.length + y2.length ≤ 48) : BothR 57 89 z1 z2 y1 y2 := by
  by_cases h : RVd z1 z2 ∧ RVd y1 y2
  · have hl := hl h
    obtain ⟨x, y, rfl, rfl, hx, hy, hy0, hg1⟩ := h.1.nums
    obtain ⟨z, t, rfl, rfl, hz, ht, ht0, hg2⟩ := h.2.nums
    have lxz := M.dig_len_mul (Nat.le_refl (M.dig x).length) (Nat.le_refl (M.dig z).length)
    have lyt := M.dig_len_mul (Nat.le_refl (M.dig y).length) (Nat.le_refl (M.dig t).length)
    have lxt := M.dig_len_mul (Nat.le_refl (M.dig x).length) (Nat.le_refl (M.dig t).length)
    have lzy := M.dig_len_mul (Nat.le_refl (M.dig z).length) (Nat.le_refl (M.dig y).length)
    have lyz := M.dig_len_mul (Nat.le_refl (M.dig y).length) (Nat.le_refl (M.dig z).length)
    have ladd : (M.dig (x * t + z * y)).length ≤ 200 := by
      have h1 : (M.dig (x * t)).length ≤ 96 := by omega
      have h2 : (M.dig (z * y)).length ≤ 96 := by omega
      have := M.dig_len_add h1 h2
      omega
    exact ⟨0, _, _, fun a1 a2 b1 b2 c1 c2 d1 d2 w h1 h2 h3 h4 => (ratMul_fit ⟨a1, c1, a2, c2, rfl, h1, h2⟩ ⟨b1, d1, b2, d2, rfl, h3, h4⟩ hx hy hz ht hy0 ht0 hg1 hg2 (by omega) (by omega)).mono fun _ _ ⟨⟨_, he, hv⟩, hb⟩ => ⟨he ▸ hv.res, hb⟩, fun a1 a2 b1 b2 c1 c2 d1 d2 w h1 h2 h3 h4 => (rratMul_fit ⟨a1, c1, a2, c2, rfl, h1, h2⟩ ⟨b1, d1, b2, d2, rfl, h3, h4⟩ hx hy hz ht hy0 ht0 hg1 hg2 (by omega) (by omega)).mono fun _ _ ⟨⟨_, he, hv⟩, hb⟩ => ⟨he ▸ hv.res, hb⟩⟩
  · exact ⟨1, 0, 0, fun a1 a2 b1 b2 c1 c2 d1 d2 w h1 h2 h3 h4 => (ratMul_bad a1 a2 b1 b2 c1 c2 d1 d2 _ _ _ _ w h1 h2 h3 h4 h).mono fun _ _ ⟨he, hb⟩ => ⟨he ▸ RRes.none, hb⟩, fun a1 a2 b1 b2 c1 c2 d1 d2 w h1 h2 h3 h4 => (rratMul_bad a1 a2 b1 b2 c1 c2 d1 d2 _ _ _ _ w h1 h2 h3 h4 h).mono fun _ _ ⟨he, hb⟩ => ⟨he ▸ RRes.none, hb⟩⟩
theorem ratDivide_both {z1 z2 y1 y2 : List Int} (hl : RVd z1 z2 ∧ RVd y1 y2 → z1.length + z2.length + y1.length + y2.length ≤ 48) : BothR 60 90 z1 z2 y1 y2 := by
  by_cases h : RVd z1 z2 ∧ RVd y1 y2
  · have hl := hl h
    obtain ⟨x, y, rfl, rfl, hx, hy, hy0, hg1⟩ := h.1.nums
    obtain ⟨z, t, rfl, rfl, hz, ht, ht0, hg2⟩ := h.2.nums
    have lxz := M.dig_len_mul (Nat.le_refl (M.dig x).length) (Nat.le_refl (M.dig z).length)
    have lyt := M.dig_len_mul (Nat.le_refl (M.dig y).length) (Nat.le_refl (M.dig t).length)
    have lxt := M.dig_len_mul (Nat.le_refl (M.dig x).length) (Nat.le_refl (M.dig t).length)
    have lzy := M.dig_len_mul (Nat.le_refl (M.dig z).length) (Nat.le_refl (M.dig y).length)
    have lyz := M.dig_len_mul (Nat.le_refl (M.dig y).length) (Nat.le_refl (M.dig z).length)
    have ladd : (M.dig (x * t + z * y)).length ≤ 200 := by
      have h1 : (M.dig (x * t)).length ≤ 96 := by omega
      have h2 : (M.dig (z * y)).length ≤ 96 := by omega
      have := M.dig_len_add h1 h2
      omega
    rcases Nat.eq_zero_or_pos z with hz0 | hz0
    · exact ⟨4, 0, 0, fun a1 a2 b1 b2 c1 c2 d1 d2 w h1 h2 h3 h4 => (ratDiv_zero ⟨a1, c1, a2, c2, rfl, h1, h2⟩ ⟨b1, d1, b2, d2, rfl, h3, h4⟩ hx hy hz ht hy0 ht0 hz0 hg1 hg2).mono fun _ _ ⟨he, hb⟩ => ⟨he ▸ RRes.none, hb⟩, fun a1 a2 b1 b2 c1 c2 d1 d2 w h1 h2 h3 h4 => (rratDiv_zero ⟨a1, c1, a2, c2, rfl, h1, h2⟩ ⟨b1, d1, b2, d2, rfl, h3, h4⟩ hx hy hz ht hy0 ht0 hg1 hg2 hz0).mono fun _ _ ⟨he, hb⟩ => ⟨he ▸ RRes.none, hb⟩⟩
    · exact ⟨0, _, _, fun a1 a2 b1 b2 c1 c2 d1 d2 w h1 h2 h3 h4 => (ratDiv_fit ⟨a1, c1, a2, c2, rfl, h1, h2⟩ ⟨b1, d1, b2, d2, rfl, h3, h4⟩ hx hy hz ht hy0 ht0 hz0 hg1 hg2 (by omega) (by omega)).mono fun _ _ ⟨⟨_, he, hv⟩, hb⟩ => ⟨he ▸ hv.res, hb⟩, fun a1 a2 b1 b2 c1 c2 d1 d2 w h1 h2 h3 h4 => (rratDiv_fit ⟨a1, c1, a2, c2, rfl, h1, h2⟩ ⟨b1, d1, b2, d2, rfl, h3, h4⟩ hx hy hz ht hy0 ht0 hg1 hg2 hz0 (by omega) (by omega)).mono fun _ _ ⟨⟨_, he, hv⟩, hb⟩ => ⟨he ▸ hv.res, hb⟩⟩
  · exact ⟨1, 0, 0, fun a1 a2 b1 b2 c1 c2 d1 d2 w h1 h2 h3 h4 => (ratDivide_bad a1 a2 b1 b2 c1 c2 d1 d2 _ _ _ _ w h1 h2 h3 h4 h).mono fun _ _ ⟨he, hb⟩ => ⟨he ▸ RRes.none, hb⟩, fun a1 a2 b1 b2 c1 c2 d1 d2 w h1 h2 h3 h4 => (rratDivide_bad a1 a2 b1 b2 c1 c2 d1 d2 _ _ _ _ w h1 h2 h3 h4 h).mono fun _ _ ⟨he, hb⟩ => ⟨he ▸ RRes.none, hb⟩⟩
theorem ratCmp_both {z1 z2 y1 y2 : List Int} (hl : RVd z1 z2 ∧ RVd y1 y2 → z1.length + z2.length + y1.length + y2.length ≤ 48) : ∃ v E : Int, (∀ (a1 a2 b1 b2 : Option Addr) (c1 c2 d1 d2 : Nat) (w : World), Row w a1 z1 c1 → Row w a2 z2 c2 → Row w b1 y1 d1 → Row w b2 y2 d2 → Calls Tryd.prog 61 #[.agg #[.slice a1 z1.length c1, .slice a2 z2.length c2], .agg #[.slice b1 y1.length d1, .slice b2 y2.length d2]] w fun e W' => e = .returned (.tuple #[.int .i64 v, .int .i64 E]) ∧ Below w.heap.size w W') ∧ (∀ (a1 a2 b1 b2 : Option Addr) (c1 c2 d1 d2 : Nat) (w : World), Row w a1 z1 c1 → Row w a2 z2 c2 → Row w b1 y1 d1 → Row w b2 y2 d2 → Calls Tryd.prog 91 #[.agg #[.slice a1 z1.length c1, .slice a2 z2.length c2], .agg #[.slice b1 y1.length d1, .slice b2 y2.length d2]] w fun e W' => e = .returned (.tuple #[.int .i64 v, .int .i64 E]) ∧ Below w.heap.size w W') := by
  by_cases h : RVd z1 z2 ∧ RVd y1 y2
  · have hl := hl h
    obtain ⟨x, y, rfl, rfl, hx, hy, hy0, hg1⟩ := h.1.nums
    obtain ⟨z, t, rfl, rfl, hz, ht, ht0, hg2⟩ := h.2.nums
    have lxz := M.dig_len_mul (Nat.le_refl (M.dig x).length) (Nat.le_refl (M.dig z).length)
    have lyt := M.dig_len_mul (Nat.le_refl (M.dig y).length) (Nat.le_refl (M.dig t).length)
    have lxt := M.dig_len_mul (Nat.le_refl (M.dig x).length) (Nat.le_refl (M.dig t).length)
    have lzy := M.dig_len_mul (Nat.le_refl (M.dig z).length) (Nat.le_refl (M.dig y).length)
    have lyz := M.dig_len_mul (Nat.le_refl (M.dig y).length) (Nat.le_refl (M.dig z).length)
    have ladd : (M.dig (x * t + z * y)).length ≤ 200 := by
      have h1 : (M.dig (x * t)).length ≤ 96 := by omega
      have h2 : (M.dig (z * y)).length ≤ 96 := by omega
      have := M.dig_len_add h1 h2
      omega
    exact ⟨_, 0, fun a1 a2 b1 b2 c1 c2 d1 d2 w h1 h2 h3 h4 => ratCmp_fit ⟨a1, c1, a2, c2, rfl, h1, h2⟩ ⟨b1, d1, b2, d2, rfl, h3, h4⟩ hx hy hz ht hy0 ht0 hg1 hg2 (by omega) (by omega), fun a1 a2 b1 b2 c1 c2 d1 d2 w h1 h2 h3 h4 => rratCmp_fit ⟨a1, c1, a2, c2, rfl, h1, h2⟩ ⟨b1, d1, b2, d2, rfl, h3, h4⟩ hx hy hz ht hy0 ht0 hg1 hg2 (by omega) (by omega)⟩
  · exact ⟨0, 1, fun a1 a2 b1 b2 c1 c2 d1 d2 w h1 h2 h3 h4 => ratCmp_bad a1 a2 b1 b2 c1 c2 d1 d2 _ _ _ _ w h1 h2 h3 h4 h, fun a1 a2 b1 b2 c1 c2 d1 d2 w h1 h2 h3 h4 => rratCmp_bad a1 a2 b1 b2 c1 c2 d1 d2 _ _ _ _ w h1 h2 h3 h4 h⟩
theorem ratFloor_both (z1 z2 : List Int) : ∃ (E : Int) (n : Nat), (∀ (a1 a2 : Option Addr) (c1 c2 : Nat) (w : World), Row w a1 z1 c1 → Row w a2 z2 c2 → Calls Tryd.prog 62 #[.agg #[.slice a1 z1.length c1, .slice a2 z2.length c2]] w fun e W' => NRes E n e W' ∧ Below w.heap.size w W') ∧ (∀ (a1 a2 : Option Addr) (c1 c2 : Nat) (w : World), Row w a1 z1 c1 → Row w a2 z2 c2 → Calls Tryd.prog 92 #[.agg #[.slice a1 z1.length c1, .slice a2 z2.length c2]] w fun e W' => NRes E n e W' ∧ Below w.heap.size w W') := by
  by_cases h : RVd z1 z2
  · obtain ⟨x, y, rfl, rfl, hx, hy, hy0, hg1⟩ := h.nums
    exact ⟨0, _, fun a1 a2 c1 c2 w h1 h2 => (ratFloor_fit ⟨a1, c1, a2, c2, rfl, h1, h2⟩ hx hy hy0 hg1).mono fun _ _ ⟨⟨_, he, hv⟩, hb⟩ => ⟨he ▸ hv.res, hb⟩, fun a1 a2 c1 c2 w h1 h2 => (rratFloor_fit ⟨a1, c1, a2, c2, rfl, h1, h2⟩ hx hy hy0 hg1).mono fun _ _ ⟨⟨_, he, hv⟩, hb⟩ => ⟨he ▸ hv.res, hb⟩⟩
  · exact ⟨1, 0, fun a1 a2 c1 c2 w h1 h2 => (ratFloor_bad a1 a2 c1 c2 z1 z2 w h1 h2 h).mono fun _ _ ⟨he, hb⟩ => ⟨he ▸ NRes.none, hb⟩, fun a1 a2 c1 c2 w h1 h2 => (rratFloor_bad a1 a2 c1 c2 z1 z2 w h1 h2 h).mono fun _ _ ⟨he, hb⟩ => ⟨he ▸ NRes.none, hb⟩⟩
theorem ratPrint_both (z1 z2 : List Int) : ∃ S : ByteArray, (∀ (a1 a2 : Option Addr) (c1 c2 : Nat) (w : World), Row w a1 z1 c1 → Row w a2 z2 c2 → Calls Tryd.prog 86 #[.agg #[.slice a1 z1.length c1, .slice a2 z2.length c2]] w fun e W' => e = .returned (.string S) ∧ Below w.heap.size w W') ∧ (∀ (a1 a2 : Option Addr) (c1 c2 : Nat) (w : World), Row w a1 z1 c1 → Row w a2 z2 c2 → Calls Tryd.prog 94 #[.agg #[.slice a1 z1.length c1, .slice a2 z2.length c2]] w fun e W' => e = .returned (.string S) ∧ Below w.heap.size w W') := by
  by_cases h : RVd z1 z2
  · obtain ⟨x, y, rfl, rfl, hx, hy, hy0, hg1⟩ := h.nums
    obtain ⟨S, hs, P1, P2⟩ := print_sized x hx
    obtain ⟨R, hr, P3, P4⟩ := print_sized y hy
    exact ⟨_, fun a1 a2 c1 c2 w h1 h2 => ratPrint_ok h1 h2 h hs hr P1 P3, fun a1 a2 c1 c2 w h1 h2 => rratPrint_ok h1 h2 h hs hr P2 P4⟩
  · exact ⟨_, fun a1 a2 c1 c2 w h1 h2 => ratPrint_bad a1 a2 c1 c2 z1 z2 w h1 h2 h, fun a1 a2 c1 c2 w h1 h2 => rratPrint_bad a1 a2 c1 c2 z1 z2 w h1 h2 h⟩
theorem ratValid_both (z1 z2 : List Int) : ∃ b : Bool, (∀ (a1 a2 : Option Addr) (c1 c2 : Nat) (w : World), Row w a1 z1 c1 → Row w a2 z2 c2 → Calls Tryd.prog 59 #[.agg #[.slice a1 z1.length c1, .slice a2 z2.length c2]] w fun e W' => e = .returned (.bool b) ∧ Below w.heap.size w W') ∧ (∀ (a1 a2 : Option Addr) (c1 c2 : Nat) (w : World), Row w a1 z1 c1 → Row w a2 z2 c2 → Calls Tryd.prog 93 #[.agg #[.slice a1 z1.length c1, .slice a2 z2.length c2]] w fun e W' => e = .returned (.bool b) ∧ Below w.heap.size w W') := by
  by_cases h : RVd z1 z2
  · exact ⟨true, fun a1 a2 c1 c2 w h1 h2 => ratValid_ok a1 a2 c1 c2 z1 z2 w h1 h2 h, fun a1 a2 c1 c2 w h1 h2 => rratValid_yes a1 a2 c1 c2 z1 z2 w h1 h2 h⟩
  · exact ⟨false, fun a1 a2 c1 c2 w h1 h2 => ratValid_no a1 a2 c1 c2 z1 z2 w h1 h2 h, fun a1 a2 c1 c2 w h1 h2 => rratValid_no a1 a2 c1 c2 z1 z2 w h1 h2 h⟩
end Go.Proofs.YtfaggdjoogpmmaaDoor
