/- math/bits.Div64 for a divisor of 48 bits. -/
import Derived.Test.YtamniclnhenmgaaDoorShelf
import Derived.Test.YtamniclnhenmgaaDoorDivMath
import Derived.Test.YtamniclnhenmgaaDoorBits
import Derived.Lib.Hide
import Derived.Deep.QuietTactic
import Derived.BigQuiet
import Derived.Test.YtamniclnhenmgaaDoorOwn
namespace Go.Proofs.YtamniclnhenmgaaDoor
open Go Go.RowKit Go.Shelf

def lzRen : Go.Shelf.Ren := ⟨fun | 129 => 103 | 134 => 126 | n => n, fun | 46 => 52 | 3 => 3 | 53 => 96 | 4 => 4 | 5 => 5 | 9 => 9 | n => n, fun | n => n⟩
theorem lzLays : Go.Proofs.Lays.n134 Tryd.prog lzRen := {
  mixed := by kernel_rfl
  f129 := Tryd.func103.trans (congrArg some (by kernel_rfl))
  f134 := Tryd.func126.trans (congrArg some (by kernel_rfl))
  t3 := Tryd.underlying3
  a3 := Tryd.isAgg3
  z3 := Tryd.sizeOf3
  v3 := Tryd.zeroValue3
  t4 := Tryd.underlying4
  a4 := Tryd.isAgg4
  z4 := Tryd.sizeOf4
  v4 := Tryd.zeroValue4
  t5 := Tryd.underlying5
  a5 := Tryd.isAgg5
  z5 := Tryd.sizeOf5
  v5 := Tryd.zeroValue5
  t9 := Tryd.underlying9
  a9 := Tryd.isAgg9
  z9 := Tryd.sizeOf9
  v9 := Tryd.zeroValue9
  t46 := Tryd.underlying52
  a46 := Tryd.isAgg52
  z46 := Tryd.sizeOf52
  v46 := Tryd.zeroValue52
  t53 := Tryd.underlying96
  a53 := Tryd.isAgg96
  z53 := Tryd.sizeOf96
  v53 := Tryd.zeroValue96 }

theorem len48 (n : Nat) (h0 : 140737488355328 ≤ n) (h1 : n < 281474976710656) : Lib.bitLen n = 48 := by
  rw [Lib.bitLen_shift 47 n (by omega) (by omega), show n / 2 ^ 47 = 1 by omega]
  rfl
theorem lz_48 (y : Int) (w : World) (h0 : 140737488355328 ≤ y) (h1 : y < 281474976710656) :
    Calls Tryd.prog 126 #[.int .u64 y] w fun e w' => e = .returned (.int .i64 16) ∧ w' = w := by
  refine (show Calls Tryd.prog 126 #[.int .u64 y] w _ from Any.bits_LeadingZeros64 lzLays y w (by omega) (by omega)).mono ?_
  rintro e w' ⟨rfl, rfl⟩
  rw [len48 y.toNat (by omega) (by omega)]
  exact ⟨rfl, rfl⟩

theorem mask32u (x : Int) : bits BinOp.and IntKind.u64 x 4294967295 = x % 4294967296 := by
  show IntKind.u64.wrap ((BitVec.ofInt 64 x &&& BitVec.ofInt 64 4294967295).toNat : Int) = _
  have h1 := toNat_ofInt64 x
  have h2 : (BitVec.ofInt 64 4294967295).toNat = 2 ^ 32 - 1 := by decide
  rw [BitVec.toNat_and, h2, Nat.and_two_pow_sub_one_eq_mod, IntKind.wrap_u64]
  omega
theorem or16u (x y : Int) (hx : 0 ≤ x) (hx2 : x < 281474976710656) (hy : 0 ≤ y) (hy2 : y < 65536) : bits BinOp.or IntKind.u64 (x * 65536) y = x * 65536 + y := by
  show IntKind.u64.wrap ((BitVec.ofInt 64 (x * 65536) ||| BitVec.ofInt 64 y).toNat : Int) = _
  have h1 := toNat_ofInt64 (x * 65536)
  have h2 := toNat_ofInt64 y
  obtain ⟨a, rfl⟩ := Int.eq_ofNat_of_zero_le hx
  obtain ⟨b, rfl⟩ := Int.eq_ofNat_of_zero_le hy
  have e1 : (BitVec.ofInt 64 ((a : Int) * 65536)).toNat = 2 ^ 16 * a := by omega
  have e2 : (BitVec.ofInt 64 (b : Int)).toNat = b := by omega
  rw [BitVec.toNat_or, e1, e2, ← Nat.two_pow_add_eq_or_of_lt (by omega), IntKind.wrap_u64]
  omega
theorem or24u (x y : Int) (hx : 0 ≤ x) (hx2 : x < 1099511627776) (hy : 0 ≤ y) (hy2 : y < 16777216) : bits BinOp.or IntKind.u64 (x * 16777216) y = x * 16777216 + y := by
  show IntKind.u64.wrap ((BitVec.ofInt 64 (x * 16777216) ||| BitVec.ofInt 64 y).toNat : Int) = _
  have h1 := toNat_ofInt64 (x * 16777216)
  have h2 := toNat_ofInt64 y
  obtain ⟨a, rfl⟩ := Int.eq_ofNat_of_zero_le hx
  obtain ⟨b, rfl⟩ := Int.eq_ofNat_of_zero_le hy
  have e1 : (BitVec.ofInt 64 ((a : Int) * 16777216)).toNat = 2 ^ 24 * a := by omega
  have e2 : (BitVec.ofInt 64 (b : Int)).toNat = b := by omega
  rw [BitVec.toNat_or, e1, e2, ← Nat.two_pow_add_eq_or_of_lt (by omega), IntKind.wrap_u64]
  omega

theorem div64_le {U y m b p r Q R : Int} (hV : m * 4294967296 + b = U * 65536) (hW : p * 4294967296 + r = y * 65536) (hQ : Q * p + R = m) (h : Q * r ≤ 4294967296 * R + b) : Q * y ≤ U := by
  have h1 : Q * (p * 4294967296 + r) = Q * p * 4294967296 + Q * r := by rw [Int.mul_add, Int.mul_assoc]
  have h2 : Q * (y * 65536) = Q * y * 65536 := by rw [Int.mul_assoc]
  rw [hW, h2] at h1
  omega
theorem div64_lt {U y m b p r Q R : Int} (hV : m * 4294967296 + b = U * 65536) (hW : p * 4294967296 + r = y * 65536) (hQ : Q * p + R = m) (h : 4294967296 * R + b < Q * r) : U < Q * y := by
  have h1 : Q * (p * 4294967296 + r) = Q * p * 4294967296 + Q * r := by rw [Int.mul_add, Int.mul_assoc]
  have h2 : Q * (y * 65536) = Q * y * 65536 := by rw [Int.mul_assoc]
  rw [hW, h2] at h1
  omega
theorem div64_start {U y m b p r : Int} (hV : m * 4294967296 + b = U * 65536) (hW : p * 4294967296 + r = y * 65536) (hb : b < 4294967296) (hp : 0 < p) (hr : 0 ≤ r) (hy : 0 < y) (hU : 0 ≤ U) : U / y ≤ m / p := by
  refine Int.le_ediv_of_mul_le hp ?_
  have h0 : U / y * y ≤ U := Int.ediv_mul_le U (by omega)
  have hk : 0 ≤ U / y := Int.ediv_nonneg hU (by omega)
  generalize U / y = k at *
  have h1 : k * (p * 4294967296 + r) = k * p * 4294967296 + k * r := by rw [Int.mul_add, Int.mul_assoc]
  have h2 : k * (y * 65536) = k * y * 65536 := by rw [Int.mul_assoc]
  have h3 : 0 ≤ k * r := Int.mul_nonneg hk hr
  rw [hW, h2] at h1
  omega
theorem div64_prod {Q r : Int} (h0 : 0 ≤ Q) (h1 : Q < 33554432) (hr : 0 ≤ r ∧ r < 4294967296) : 0 ≤ Q * r ∧ Q * r < 144115188075855872 := by
  refine ⟨Int.mul_nonneg h0 hr.1, ?_⟩
  have := Int.mul_le_mul (a := Q) (b := r) (c := 33554431) (d := 4294967295) (by omega) (by omega) hr.1 (by decide)
  omega
theorem div64_eq {U y Q : Int} (hy : 0 < y) (h : U / y ≤ Q) (hl : Q * y ≤ U) : U / y = Q := Int.le_antisymm h (Int.le_ediv_of_mul_le hy hl)
theorem div64_down {U y Q : Int} (hy : 0 < y) (h : U < Q * y) : U / y ≤ Q - 1 := by
  have := Int.ediv_lt_of_lt_mul hy h
  omega

def Div64Rel (hi lo y m p q : Int) (v1 v2 : Value) : Prop :=
  ∃ Q R : Int, v1 = .int .u64 Q ∧ v2 = .int .u64 R ∧ Q * p + R = m ∧ 0 ≤ Q ∧ Q ≤ q ∧ 0 ≤ R ∧ R < 4294967296 ∧ (hi * 18446744073709551616 + lo) / y ≤ Q

set_option maxRecDepth 100000 in
set_option maxHeartbeats 1000000 in
theorem div64_any (hi lo y : Int) (w : World) (h0 : 0 ≤ hi) (h1 : hi < 256) (l0 : 0 ≤ lo) (l1 : lo < 18446744073709551616) (y0 : 140737488355328 ≤ y) (y1 : y < 281474976710656) :
    Calls Tryd.prog 124 #[.int .u64 hi, .int .u64 lo, .int .u64 y] w fun e w' => (∃ r, e = .returned (.tuple #[.int .u64 ((hi * 18446744073709551616 + lo) / y), r])) ∧ Below w.heap.size w w' := by
  have HLZ := Lib.hid (lz_48 y w y0 y1)
  have n1 : ¬ y = 0 := by omega
  have n2 : ¬ y ≤ hi := by omega
  by_cases hz : hi = 0
  · subst hz
    go_enter Tryd.func124, Tryd.ntmps124
    go_wp2_with fail
    go_quiet (fail)
    go_wp2
    refine bodyPost_ret (v := .tuple #[.int .u64 (lo / y), .int .u64 (lo % y)]) (by simp [results, Tryd.results124, go_sem]) rfl ⟨⟨.int .u64 (lo % y), ?_⟩, belowN (Below.refl _ _) _⟩
    rw [Int.zero_mul, Int.zero_add]
  · obtain ⟨u, hu⟩ : ∃ u, u = hi * 65536 + lo / 281474976710656 := ⟨_, rfl⟩
    have e2 : bits BinOp.or IntKind.u64 (hi * 65536) (lo / 281474976710656) = u := by rw [or16u _ _ (by omega) (by omega) (by omega) (by omega), hu]
    obtain ⟨p, hp⟩ : ∃ p, y * 65536 / 4294967296 = p := ⟨_, rfl⟩
    obtain ⟨r, hr⟩ : ∃ r, (y * 65536) % 4294967296 = r := ⟨_, rfl⟩
    have e3 : bits BinOp.and IntKind.u64 (y * 65536) 4294967295 = r := by rw [mask32u, hr]
    obtain ⟨z, hzz⟩ : ∃ z, IntKind.u64.wrap (lo * 65536) = z := ⟨_, rfl⟩
    have hz' : z = (lo * 65536) % 18446744073709551616 := by rw [← hzz, IntKind.wrap_u64]
    obtain ⟨a, ha⟩ : ∃ a, z / 4294967296 = a := ⟨_, rfl⟩
    obtain ⟨b, hb⟩ : ∃ b, z % 4294967296 = b := ⟨_, rfl⟩
    have e4 : bits BinOp.and IntKind.u64 z 4294967295 = b := by rw [mask32u, hb]
    have hu0 : 0 ≤ u ∧ u < 16777216 := by omega
    have hp0 : 2147483648 ≤ p ∧ p < 4294967296 := by omega
    have hr0 : 0 ≤ r ∧ r < 4294967296 := by omega
    have ha0 : 0 ≤ a ∧ a < 4294967296 := by omega
    have hb0 : 0 ≤ b ∧ b < 4294967296 := by omega
    have hy' : p * 4294967296 + r = y * 65536 := by omega
    have hU : u * 18446744073709551616 + (a * 4294967296 + b) = (hi * 18446744073709551616 + lo) * 65536 := by omega
    have e5 : IntKind.u64.wrap (u.tdiv p) = 0 := by
      rw [Int.tdiv_eq_ediv_of_nonneg hu0.1, Int.ediv_eq_zero_of_lt hu0.1 (by omega)]; rfl
    have e6 : IntKind.u64.wrap u = u := by rw [IntKind.wrap_u64]; omega
    obtain ⟨m, hm⟩ : ∃ m, u * 4294967296 + a = m := ⟨_, rfl⟩
    obtain ⟨q, hq⟩ : ∃ q, q = m / p := ⟨_, rfl⟩
    have e9 : IntKind.u64.wrap (m.tdiv p) = q := by
      rw [Int.tdiv_eq_ediv_of_nonneg (by omega), ← hq, IntKind.wrap_u64]
      have h1 : q < 33554432 := by rw [hq]; exact Int.ediv_lt_of_lt_mul (by omega) (by omega)
      have h2 : 0 ≤ q := by rw [hq]; exact Int.ediv_nonneg (by omega) (by omega)
      omega
    have hq1 : q < 33554432 := by rw [hq]; exact Int.ediv_lt_of_lt_mul (by omega) (by omega)
    have hq2 : 0 ≤ q := by rw [hq]; exact Int.ediv_nonneg (by omega) (by omega)
    have ht0 : q * p + m % p = m := by rw [hq, Int.mul_comm]; exact Int.mul_ediv_add_emod m p
    have ht1 : 0 ≤ m % p := Int.emod_nonneg _ (by omega)
    have ht2 : m % p < p := Int.emod_lt_of_pos _ (by omega)
    have hqp := Int.mul_nonneg hq2 (by omega : 0 ≤ p)
    obtain ⟨t, ht⟩ : ∃ t, t = q * p := ⟨_, rfl⟩
    have e10 : IntKind.u64.wrap (q * p) = t := by rw [ht, IntKind.wrap_u64]; omega
    obtain ⟨rh, hrh⟩ : ∃ rh, m - t = rh := ⟨_, rfl⟩
    have hrh0 : 0 ≤ rh ∧ rh < p := by omega
    have htm : 0 ≤ t ∧ t ≤ m := by omega
    have hst : (hi * 18446744073709551616 + lo) / y ≤ q := by
      rw [hq]
      exact div64_start (b := b) (r := r) (by omega) hy' (by omega) (by omega) (by omega) (by omega) (by omega)
    have hV : m * 4294967296 + b = (hi * 18446744073709551616 + lo) * 65536 := by omega
    have hQ0 : q * p + rh = m := by omega
    have HY := Lib.hid hy'
    have HU := Lib.hid hV
    have HST := Lib.hid hst
    have HQ0 := Lib.hid hQ0
    clear hu hz' hy' hU hr hb hq ht0 ht1 ht2 hqp ht hst hV hQ0
    go_enter Tryd.func124, Tryd.ntmps124
    go_wp2_with fail
    refine HLZ.out.mono ?_
    rintro e w' ⟨rfl, rfl⟩
    go_wp2_with fail
    go_loopw [15, 16] (fun q1 rr wr => q1 = .int .u64 0 ∧ rr = .int .u64 u ∧ Below w'.heap.size w' wr) (fun _ _ _ => 0)
    case atStart => exact ⟨rfl, rfl, Below.refl _ _⟩
    case round =>
      obtain ⟨rfl, rfl, hb1⟩ := hrel
      have HB1 := Lib.hid hb1
      clear hb1
      go_wp2_with fail
      go_loopw [18, 16] (fun v1 v2 wr => Div64Rel hi lo y m p q v1 v2 ∧ Below w'.heap.size w' wr) (fun v1 _ _ => (intOf v1).toNat)
      case atStart => exact ⟨⟨q, rh, rfl, rfl, HQ0.out, hq2, Int.le_refl _, hrh0.1, by omega, HST.out⟩, HB1.out⟩
      case round =>
        obtain ⟨⟨Q, R, rfl, rfl, hQR, hQ0, hQ1, hR0, hR1, hge⟩, hb2⟩ := hrel
        have HB2 := Lib.hid hb2
        have HQR := Lib.hid hQR
        have HGE := Lib.hid hge
        have hQr := div64_prod hQ0 (by omega) hr0
        obtain ⟨X, hX⟩ : ∃ X, X = Q * r := ⟨_, rfl⟩
        rw [← hX] at hQr
        have e11 : IntKind.u64.wrap (Q * r) = X := by rw [← hX, IntKind.wrap_u64]; omega
        have HX := Lib.hid hX
        clear hX hb2 hQR hge
        by_cases ht : 4294967296 * R + b < X
        · have hQ2 : 0 < Q := by
            rcases Int.lt_or_le 0 Q with h | h
            · exact h
            · obtain rfl : Q = 0 := by omega
              have := HX.out
              rw [Int.zero_mul] at this
              omega
          have hd : (hi * 18446744073709551616 + lo) / y ≤ Q - 1 := div64_down (by omega) (div64_lt HU.out HY.out HQR.out (by rw [← HX.out]; exact ht))
          have hQp : (Q - 1) * p + (R + p) = m := by have := HQR.out; rw [Int.sub_mul]; omega
          have HD := Lib.hid hd
          have HQP := Lib.hid hQp
          clear hd hQp
          by_cases hbk : 4294967296 ≤ R + p
          · have hw : IntKind.u64.wrap (R + p) = R + p := by rw [IntKind.wrap_u64]; omega
            go_wp2_with fail
            refine bodyPost_ret (v := .tuple #[.int .u64 (Q - 1), .int .u64 (IntKind.u64.wrap (IntKind.u64.wrap (IntKind.u64.wrap (m * 4294967296) + b) - IntKind.u64.wrap ((Q - 1) * (y * 65536))) / 65536)]) (by simp [results, Tryd.results124, go_sem]) rfl ⟨⟨.int .u64 (IntKind.u64.wrap (IntKind.u64.wrap (IntKind.u64.wrap (m * 4294967296) + b) - IntKind.u64.wrap ((Q - 1) * (y * 65536))) / 65536), ?_⟩, HB2.out⟩
            have h3 := div64_prod (Q := Q - 1) (r := r) (by omega) (by omega) hr0
            rw [div64_eq (by omega) HD.out (div64_le HU.out HY.out HQP.out (by omega))]
          · go_wp2_with fail
            go_roundw
            case rel => exact ⟨⟨Q - 1, R + p, rfl, rfl, HQP.out, by omega, by omega, by omega, by omega, HD.out⟩, HB2.out⟩
            case measure => simp [intOf]; omega
        · go_wp2_with fail
          refine bodyPost_ret (v := .tuple #[.int .u64 Q, .int .u64 (IntKind.u64.wrap (IntKind.u64.wrap (IntKind.u64.wrap (m * 4294967296) + b) - IntKind.u64.wrap (Q * (y * 65536))) / 65536)]) (by simp [results, Tryd.results124, go_sem]) rfl ⟨⟨.int .u64 (IntKind.u64.wrap (IntKind.u64.wrap (IntKind.u64.wrap (m * 4294967296) + b) - IntKind.u64.wrap (Q * (y * 65536))) / 65536), ?_⟩, HB2.out⟩
          rw [div64_eq (by omega) HGE.out (div64_le HU.out HY.out HQR.out (by rw [← HX.out]; omega))]
end Go.Proofs.YtamniclnhenmgaaDoor
