/- BitmatSolves: the walk. -/
import Derived.Test.YtgihafjebmbdiaaBAwake
namespace Go.Proofs.Ytgihafjebmbdiaa.B
open Go Go.RowKit Go.Shelf
open BM (bt)

/-- 2 to the power of k, less 1. -/
theorem mask_int (k : Nat) (hk : k < 64) : IntKind.u64.wrap (IntKind.u64.wrap (2 ^ k) - 1) = ((2 ^ k - 1 : Nat) : Int) := by
  have h1 : 2 ^ k < 18446744073709551616 := Nat.pow_lt_pow_right (a := 2) (by decide) (show k < 64 from hk)
  have h2 : 0 < 2 ^ k := Nat.pow_pos (by decide)
  rw [show ((2 : Int) ^ k) = ((2 ^ k : Nat) : Int) by rw [Int.natCast_pow]; rfl, u64_wrap _ h1, show (((2 ^ k : Nat) : Int) - 1) = ((2 ^ k - 1 : Nat) : Int) by omega, u64_wrap _ (by omega)]
theorem masked (v : V) (k : Nat) (hk : k < 64) : ∃ y : V, bits BinOp.and IntKind.u64 (v.toNat : Int) (IntKind.u64.wrap (IntKind.u64.wrap (2 ^ k) - 1)) = (y.toNat : Int) ∧ fitB y k = true := by
  have h1 : 2 ^ k < 18446744073709551616 := Nat.pow_lt_pow_right (a := 2) (by decide) (show k < 64 from hk)
  rw [mask_int k hk]
  refine ⟨v &&& BitVec.ofNat 64 (2 ^ k - 1), ?_, ?_⟩
  · rw [and_u64 _ _ v.lt (by omega), BitVec.toNat_and, BitVec.toNat_ofNat, Nat.mod_eq_of_lt (show 2 ^ k - 1 < 2 ^ 64 by omega)]
  · rw [fitB_iff]
    intro j hj
    rw [← BM.bt_nat, BitVec.toNat_and, BitVec.toNat_ofNat, Nat.mod_eq_of_lt (show 2 ^ k - 1 < 2 ^ 64 by omega), Nat.and_two_pow_sub_one_eq_mod, Nat.testBit_mod_two_pow, decide_eq_false (by omega), Bool.false_and]
theorem below_dice {W W' : World} {B dp : Nat} (hg : W.grownBy W' (some dp)) (h1 : B ≤ dp) (h2 : B ≤ W.heap.size) : Below B W W' :=
  (Below.refl B W).grown hg h2 (fun k e => by cases e; exact h1)

set_option maxRecDepth 100000 in
set_option maxHeartbeats 1000000 in
theorem bitmatSolves_any (a : Option Addr) (cap : Nat) (ts : List Int) (v x : V) (w : World) (hR : IRow w a ts cap) :
    Calls Try.prog 5 #[.slice a ts.length cap, .int .u64 (v.toNat : Int), .int .u64 (x.toNat : Int)] w fun e W => e = .returned (.bool true) ∧ Below w.heap.size w W := by
  have hroom := hR.room
  have hmost := hR.most
  by_cases hl : ts.length ≤ 400
  · have hlt := light_any a ts.length cap w
    rw [decide_eq_true (show (ts.length : Int) ≤ 400 by omega)] at hlt
    have HL := Lib.hid hlt
    have HRO := Lib.hid (roll_any a cap ts w hR hl)
    clear hlt hR
    go_enter Try.func5, Try.ntmps5
    go_wp2_with fail
    refine HL.out.mono ?_
    rintro e w1 ⟨rfl, hw⟩
    obtain rfl := hw.symm
    go_wp2_with fail
    refine HRO.out.mono ?_
    rintro e w2 ⟨rfl, hd2, hb2⟩
    have HB2 := Lib.hid hb2
    have hs2 := hd2.lt
    have HN := Lib.hid (next_any w2 w.heap.size a cap ts 0 9 (by decide) (by decide) hd2)
    clear hd2 hb2 HL HRO
    go_wp2_with fail
    refine HN.out.mono ?_
    rintro e w3 ⟨r1, k3, hr1, rfl, hd3, hg3⟩
    have HB3 := Lib.hid (HB2.out.trans (below_dice hg3 (Nat.le_refl _) (Nat.le_of_lt hs2)))
    have hs3 := hd3.lt
    have HN3 := Lib.hid (next_any w3 w.heap.size a cap ts k3 9 (by decide) (by decide) hd3)
    obtain ⟨r, hr⟩ : ∃ r : Nat, r = r1 + 1 := ⟨_, rfl⟩
    have hri : (1 : Int) + (r1 : Int) = (r : Int) := by omega
    have hrb : 1 ≤ r ∧ r ≤ 9 := by omega
    obtain ⟨hrb1, hrb2⟩ := hrb
    clear hr
    clear hd3 hg3 HN
    go_wp2_with fail
    refine HN3.out.mono ?_
    rintro e w4 ⟨c1, k4, hc1, rfl, hd4, hg4⟩
    have HB4 := Lib.hid (HB3.out.trans (below_dice hg4 (Nat.le_refl _) (Nat.le_of_lt hs3)))
    have hs4 := hd4.lt
    obtain ⟨c, hc⟩ : ∃ c : Nat, c = c1 + 1 := ⟨_, rfl⟩
    have hci : (1 : Int) + (c1 : Int) = (c : Int) := by omega
    have hcb : 1 ≤ c ∧ c ≤ 9 := by omega
    obtain ⟨hcb1, hcb2⟩ := hcb
    clear hc
    have HM := Lib.hid (matrix_any w4 w.heap.size a cap ts k4 r c (by omega) (by omega) hd4)
    clear hd4 hg4 HN3
    go_wp2_with fail
    refine HM.out.mono ?_
    rintro e w5 ⟨vv, R, k5, rfl, hRl, hRf, ⟨a', cap', rfl, hrow, _⟩, hd5, hg5⟩
    have hMV : MV c R := ⟨by omega, by omega, by omega, by omega, fun j hj => hRf j (by omega)⟩
    have HB5 := Lib.hid (HB4.out.trans (below_dice hg5 (Nat.le_refl _) (Nat.le_of_lt hs4)))
    obtain ⟨v', hv1, hv2⟩ := masked v r (by omega)
    obtain ⟨x', hx1, hx2⟩ := masked x c (by omega)
    have HMV := Lib.hid hMV
    have hRr : fitB v' R.length = true := by rw [hRl]; exact hv2
    have HV := Lib.hid hRr
    have HX := Lib.hid hx2
    have HRL := Lib.hid hRl
    have hbx := MBox.new w5 (c : Int) a' R.length cap' 24
    have hr6 := hrow.alloc (.cells #[.int .i64 (c : Int), .slice a' R.length cap'] 24)
    have hb6 := HB5.out.alloc HB5.out.size (.cells #[.int .i64 (c : Int), .slice a' R.length cap'] 24)
    obtain ⟨w6, hw6⟩ : ∃ w6, w5.alloc (.cells #[.int .i64 (c : Int), .slice a' R.length cap'] 24) = w6 := ⟨_, rfl⟩
    rw [hw6] at hbx hr6 hb6
    have z0 := MBox.new w5 0 none 0 0 24
    have y0 := z0.c0
    have y1 := z0.c1
    have y2 := z0.f0
    have y3 := z0.f1
    have HBX := Lib.hid hbx
    have HR6 := Lib.hid hr6
    have HB6 := Lib.hid hb6
    have a0 := hbx.c0
    have a1 := hbx.c1
    clear hRf hrow hd5 hg5 hMV hv2 hx2 hRr hRl hbx hr6 hb6 z0 HM HB2 HB3 HB4 HB5
    go_wp2_with fail
    obtain ⟨hf1, hf2⟩ := solve_facts HMV.out HV.out
    have hf2' := hf2 x' HX.out
    have hso := solve_any c a' cap' R v' w6 HR6.out
    obtain ⟨X, hX⟩ : ∃ X, solveV c R v' = X := ⟨_, rfl⟩
    obtain ⟨E, hE⟩ : ∃ E, solveE c R v' = E := ⟨_, rfl⟩
    rw [hX, hE] at hf1 hf2' hso
    have HSO := Lib.hid hso
    have HF1 := Lib.hid hf1
    have HF2 := Lib.hid hf2'
    clear hf1 hf2 hf2' hso hX hE y0 y1 y2 y3
    refine HSO.out.mono ?_
    rintro e w7 ⟨rfl, hb7⟩
    have hbx7 := HBX.out.below hb7
    have HR7 := Lib.hid (HR6.out.below hb7)
    have HB7 := Lib.hid (HB6.out.trans (hb7.mono HB6.out.size))
    have HBX7 := Lib.hid hbx7
    clear a0 a1 hb7 HBX HR6 HB6 HSO
    have a0 := hbx7.c0
    have a1 := hbx7.c1
    have hkk := kernel_any c a' cap' R w7 HR7.out
    rw [kernE_is HMV.out] at hkk
    have HKK := Lib.hid hkk
    clear hkk hbx7
    go_wp2_with fail
    refine HKK.out.mono ?_
    rintro e w8 ⟨⟨kv, rfl, ka, kc, rfl, hkr, _⟩, hb8⟩
    obtain ⟨L, hL⟩ : ∃ L, kernL c R = L := ⟨_, rfl⟩
    rw [hL] at hkr ⊢
    have HLL := Lib.hid hL
    have hbx8 := HBX7.out.below hb8
    have HR8 := Lib.hid (HR7.out.below hb8)
    have HB8 := Lib.hid (HB7.out.trans (hb8.mono HB7.out.size))
    have HBX8 := Lib.hid hbx8
    have HK8 := Lib.hid hkr
    clear a0 a1 hb8 HBX7 HR7 HB7 HKK hkr hL
    have a0 := hbx8.c0
    have a1 := hbx8.c1
    have hap := apply_any c a' cap' R x' w8 HR8.out
    rw [applyE_is HMV.out HX.out, applyV_is HMV.out HX.out] at hap
    obtain ⟨Y, hY⟩ : ∃ Y, BM.app (el R) R.length x' = Y := ⟨_, rfl⟩
    rw [hY] at hap
    have HY := Lib.hid hY
    have HAP := Lib.hid hap
    clear hap hbx8 hY
    go_wp2_with fail
    refine HAP.out.mono ?_
    rintro e w9 ⟨rfl, hb9⟩
    have hbx9 := HBX8.out.below hb9
    have HR9 := Lib.hid (HR8.out.below hb9)
    have HB9 := Lib.hid (HB8.out.trans (hb9.mono HB8.out.size))
    have HBX9 := Lib.hid hbx9
    have HK9 := Lib.hid (HK8.out.below hb9)
    have HAW := Lib.hid (awake_yes w9)
    clear a0 a1 hb9 HBX8 HR8 HB8 HAP HK8 hbx9
    go_wp2_with fail
    refine HAW.out.mono ?_
    rintro e w10 ⟨rfl, hb10⟩
    have hbx10 := HBX9.out.below hb10
    have HR10 := Lib.hid (HR9.out.below hb10)
    have HB10 := Lib.hid (HB9.out.trans (hb10.mono HB9.out.size))
    have HBX10 := Lib.hid hbx10
    have HK10 := Lib.hid (HK9.out.below hb10)
    clear hb10 HBX9 HR9 HB9 HAW HK9
    have a0 := hbx10.c0
    have a1 := hbx10.c1
    have hrk := rank_any c a' cap' R w10 HR10.out
    obtain ⟨N, hN⟩ : ∃ N, rankN c R = N := ⟨_, rfl⟩
    have hcount := ker_count HMV.out
    rw [HLL.out, hN] at hcount
    rw [hN] at hrk
    have HRK := Lib.hid hrk
    have hsum : (L.length : Int) + (N : Int) = (c : Int) := by omega
    clear hrk hbx10 hN hcount
    go_wp2_with fail
    refine HRK.out.mono ?_
    rintro e w11 ⟨rfl, hb11⟩
    have hbx11 := HBX10.out.below hb11
    have HR11 := Lib.hid (HR10.out.below hb11)
    have HB11 := Lib.hid (HB10.out.trans (hb11.mono HB10.out.size))
    have HK11 := Lib.hid (HK10.out.below hb11)
    clear hb11 HBX10 HR10 HB10 HRK HK10 a0 a1
    have a0 := hbx11.c0
    have a1 := hbx11.c1
    have hap := apply_any c a' cap' R X w11 HR11.out
    have hkroom := HK11.out.room
    have hkmost := HK11.out.most
    by_cases hYv : Y = v'
    · have hxy : BM.app (el R) R.length x' = v' := by rw [HY.out, hYv]
      obtain ⟨rfl, hle, hker⟩ := HF2.out hxy
      have hgood : fitB X c = true ∧ BM.app (el R) R.length X = v' := by
        rcases HF1.out with ⟨h6, _⟩ | ⟨_, q1, q2⟩
        · exact absurd h6 (by decide)
        · exact ⟨q1, q2⟩
      rw [applyE_is HMV.out hgood.1, applyV_is HMV.out hgood.1, hgood.2] at hap
      have HAP := Lib.hid hap
      have hbe : ((Y.toNat : Int) == (v'.toNat : Int)) = true := by rw [hYv]; simp
      have hgt : ¬ x'.toNat < X.toNat := by omega
      have hxx := xor_V X x'
      obtain ⟨d0, hd0⟩ : ∃ d0, X ^^^ x' = d0 := ⟨_, rfl⟩
      rw [hd0] at hxx hker
      have hred : Red c R 0 d0 := ⟨hker, fun i hi => absurd hi (Nat.not_lt_zero i)⟩
      have HRED := Lib.hid hred
      clear hap hxy hgood hYv hle hker hd0 hred hbx11 HF1 HF2
      go_wp2_with fail
      go_loopw [17, 18] (fun d i wr => ∃ (k : Nat) (dd : V), i = .int .i64 (k : Int) ∧ k ≤ L.length ∧ d = .int .u64 (dd.toNat : Int) ∧ Red c R k dd ∧ wr = w11) (fun _ i _ => L.length - (intOf i).toNat)
      case atStart => exact ⟨0, d0, rfl, Nat.zero_le _, rfl, HRED.out, rfl⟩
      case round =>
        clear HRED hxx
        obtain ⟨k, dd, rfl, hk, rfl, hred, rfl⟩ := hrel
        have HRED := Lib.hid hred
        clear hred
        by_cases hlt : k < L.length
        · obtain ⟨kb, ko, rfl, hcell⟩ := HK11.out.elV k hlt
          have hst := HRED.out.step HMV.out (by rw [HLL.out]; exact hlt)
          rw [HLL.out] at hst
          have hxx := xor_V dd (el L k)
          obtain ⟨y, hy⟩ : ∃ y, dd ^^^ el L k = y := ⟨_, rfl⟩
          rw [hy] at hxx hst
          have HST := Lib.hid hst
          clear hst hy
          by_cases hly : y.toNat < dd.toNat
          · go_wp2_with fail
            go_roundw
            case rel => exact ⟨k + 1, y, by go_num, hlt, rfl, HST.out.1 hly, by first | rfl | trivial⟩
            case measure => simp [intOf]; omega
          · go_wp2_with fail
            go_roundw
            case rel => exact ⟨k + 1, dd, by go_num, hlt, rfl, HST.out.2 hly, by first | rfl | trivial⟩
            case measure => simp [intOf]; omega
        · obtain rfl : k = L.length := by omega
          obtain rfl : dd = 0 := Red.zero HMV.out (by rw [HLL.out]; exact HRED.out)
          have hz : (((0 : V).toNat : Int) != 0) = false := rfl
          clear HRED
          go_wp2_with fail
          refine HAP.out.mono ?_
          rintro e w12 ⟨rfl, hb12⟩
          have HB12 := Lib.hid (HB11.out.trans (hb12.mono HB11.out.size))
          clear hb12
          go_wp2_with fail
          go_ret
          exact ⟨by first | rfl | simp, HB12.out⟩
    · have hbe : ((Y.toNat : Int) == (v'.toNat : Int)) = false := beq_false_of_ne (fun e => hYv (BitVec.eq_of_toNat_eq (by omega)))
      rcases HF1.out with ⟨rfl, rfl⟩ | ⟨rfl, q1, q2⟩
      · clear hap hYv hbx11 HF1 HF2
        have hz : (((0 : V).toNat : Int) == 0) = true := rfl
        go_wp2_with fail
        go_ret
        exact ⟨by first | rfl | simp, HB11.out⟩
      · rw [applyE_is HMV.out q1, applyV_is HMV.out q1, q2] at hap
        have HAP := Lib.hid hap
        clear hap hYv hbx11 HF1 HF2 q1 q2
        go_wp2_with fail
        refine HAP.out.mono ?_
        rintro e w12 ⟨rfl, hb12⟩
        have HB12 := Lib.hid (HB11.out.trans (hb12.mono HB11.out.size))
        clear hb12
        go_wp2_with fail
        go_ret
        exact ⟨by first | rfl | simp, HB12.out⟩
  · have hlt := light_any a ts.length cap w
    rw [decide_eq_false (show ¬ (ts.length : Int) ≤ 400 by omega)] at hlt
    have HL := Lib.hid hlt
    have HAW := Lib.hid (awake_yes w)
    clear hlt hR
    go_enter Try.func5, Try.ntmps5
    go_wp2_with fail
    refine HL.out.mono ?_
    rintro e w1 ⟨rfl, hw⟩
    obtain rfl := hw.symm
    go_wp2_with fail
    refine HAW.out.mono ?_
    rintro e w2 ⟨rfl, hb2⟩
    go_wp2_with fail
    go_ret
    exact ⟨rfl, by assumption⟩
end Go.Proofs.Ytgihafjebmbdiaa.B
