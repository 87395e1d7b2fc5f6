/- law10.awake, HashLinear. -/
import Derived.Test.YtodiokladojnjaaHsJ
import Derived.Test.YtodiokladojnjaaBAwake
namespace Go.Proofs.Ytodiokladojnjaa.B
open Go Go.RowKit Go.Shelf

theorem aw_chk : chkE aw2 = 0 := by
  unfold chkE; rw [show aw2.length = 2 from rfl]; decide +kernel
theorem aw_hinv : hinvR aw2 = aw2 := by
  unfold hinvR; rw [aw_chk, if_pos ⟨rfl, by decide⟩]; exact aw_inv.2.1
theorem aw_v2 : ((valV aw2 2).toNat : Int) = 3 := by decide +kernel
theorem aw_v3 : ((valV aw2 3).toNat : Int) = 2 := by decide +kernel
theorem row_aw (w : World) (t : TypeId) : Row (w.alloc (.cells #[.int .u64 3, .int .u64 2] t)) (some ⟨w.heap.size, 0, none⟩) aw2 2 := row_two w 3 2 t

set_option maxRecDepth 100000 in
set_option maxHeartbeats 1000000 in
theorem hawake_yes (w : World) : Calls Try.prog 8 #[] w fun e W => e = .returned (.bool true) ∧ Below w.heap.size w W := by
  have HI := Lib.hid (hinverse_any (some ⟨w.heap.size, 0, none⟩) 2 aw2 (w.alloc (.cells #[.int .u64 3, .int .u64 2] 32)) (row_aw w _))
  rw [aw_chk, aw_hinv, show aw2.length = 2 from rfl] at HI
  have HB0 := Lib.hid ((Below.refl _ w).alloc (Nat.le_refl _) (.cells #[.int .u64 3, .int .u64 2] 32))
  go_enter Try.func8, Try.ntmps8
  go_wp2_with fail
  refine HI.out.mono ?_
  rintro e w1 ⟨⟨v, rfl, a1, c1, rfl, hr1⟩, hb1⟩
  have HR1 := Lib.hid hr1
  have HB1 := Lib.hid (HB0.out.trans (hb1.mono HB0.out.size))
  rw [show aw2.length = 2 from rfl]
  clear hr1 hb1
  have HV2 := Lib.hid (value_any (some ⟨w1.heap.size, 0, none⟩) 2 aw2 2 (w1.alloc (.cells #[.int .u64 3, .int .u64 2] 32)) (row_aw w1 _))
  rw [aw_v2, show aw2.length = 2 from rfl] at HV2
  have HR2 := Lib.hid (HR1.out.alloc (.cells #[.int .u64 3, .int .u64 2] 32))
  have HB2 := Lib.hid (HB1.out.alloc HB1.out.size (.cells #[.int .u64 3, .int .u64 2] 32))
  go_wp2_with fail
  refine HV2.out.mono ?_
  rintro e w3 ⟨rfl, hb3⟩
  have HR3 := Lib.hid (HR2.out.below hb3)
  have HB3 := Lib.hid (HB2.out.trans (hb3.mono HB2.out.size))
  clear hb3
  have HC := Lib.hid (check_any (some ⟨w3.heap.size, 0, none⟩) 2 aw2 (w3.alloc (.cells #[.int .u64 3, .int .u64 2] 32)) (row_aw w3 _))
  rw [aw_chk, show aw2.length = 2 from rfl] at HC
  have HR4 := Lib.hid (HR3.out.alloc (.cells #[.int .u64 3, .int .u64 2] 32))
  have HB4 := Lib.hid (HB3.out.alloc HB3.out.size (.cells #[.int .u64 3, .int .u64 2] 32))
  go_wp2_with fail
  refine HC.out.mono ?_
  rintro e w5 ⟨rfl, hb5⟩
  have HR5 := Lib.hid (HR4.out.below hb5)
  have HB5 := Lib.hid (HB4.out.trans (hb5.mono HB4.out.size))
  clear hb5
  have HV3 := Lib.hid (value_any a1 c1 aw2 3 w5 HR5.out)
  rw [aw_v3, show aw2.length = 2 from rfl] at HV3
  go_wp2_with fail
  refine HV3.out.mono ?_
  rintro e w6 ⟨rfl, hb6⟩
  have HB6 := Lib.hid (HB5.out.trans (hb6.mono HB5.out.size))
  clear hb6
  go_wp2_with fail
  go_ret
  exact ⟨rfl, HB6.out⟩

set_option maxRecDepth 100000 in
set_option maxHeartbeats 1000000 in
theorem hashLinear_any (a : Option Addr) (cap : Nat) (R : List V) (x y : V) (w : World) (hR : Row w a R cap) :
    Calls Try.prog 7 #[.slice a R.length cap, .int .u64 (x.toNat : Int), .int .u64 (y.toNat : Int)] w fun e W => e = .returned (.bool true) ∧ Below w.heap.size w W := by
  have hroom := hR.room
  have hmost := hR.most
  have HAW := Lib.hid (hawake_yes w)
  have HR := Lib.hid hR
  clear hR
  by_cases hl : R.length ≤ 200
  · obtain ⟨X, hX⟩ : ∃ X, valV R x = X := ⟨_, rfl⟩
    obtain ⟨Y, hY⟩ : ∃ Y, valV R y = Y := ⟨_, rfl⟩
    obtain ⟨s, hs⟩ : ∃ s, x ^^^ y = s := ⟨_, rfl⟩
    obtain ⟨S, hS⟩ : ∃ S, X ^^^ Y = S := ⟨_, rfl⟩
    have hxy := xor_V x y
    rw [hs] at hxy
    have hXY := xor_V X Y
    rw [hS] at hXY
    have hvs : valV R s = S := by rw [← hs, valV_xor, hX, hY, hS]
    have hfit : ((X.toNat : Int) / 2 ^ min R.length 64 == 0) = true := by rw [fit_V, ← hX]; exact valV_fit R x
    have HV1 := Lib.hid (fun W h => value_any a cap R s W h)
    have HV2 := Lib.hid (fun W h => value_any a cap R x W h)
    have HV3 := Lib.hid (fun W h => value_any a cap R y W h)
    have HV4 := Lib.hid (fun W h => value_any a cap R 0 W h)
    rw [hvs] at HV1
    rw [hX] at HV2
    rw [hY] at HV3
    rw [valV_zero, show ((0 : V).toNat : Int) = 0 from rfl] at HV4
    have HFIT := Lib.hid hfit
    clear hX hY hs hS hvs hfit
    go_enter Try.func7, Try.ntmps7
    go_wp2_with fail
    refine HAW.out.mono ?_
    rintro e w1 ⟨rfl, hb1⟩
    have HB1 := Lib.hid hb1
    have HR1 := Lib.hid (HR.out.below hb1)
    clear hb1
    go_wp2_with fail
    refine (HV1.out w1 HR1.out).mono ?_
    rintro e w2 ⟨rfl, hb2⟩
    have HB2 := Lib.hid (HB1.out.trans (hb2.mono HB1.out.size))
    have HR2 := Lib.hid (HR1.out.below hb2)
    clear hb2
    go_wp2_with fail
    refine (HV2.out w2 HR2.out).mono ?_
    rintro e w3 ⟨rfl, hb3⟩
    have HB3 := Lib.hid (HB2.out.trans (hb3.mono HB2.out.size))
    have HR3 := Lib.hid (HR2.out.below hb3)
    clear hb3
    go_wp2_with fail
    refine (HV3.out w3 HR3.out).mono ?_
    rintro e w4 ⟨rfl, hb4⟩
    have HB4 := Lib.hid (HB3.out.trans (hb4.mono HB3.out.size))
    have HR4 := Lib.hid (HR3.out.below hb4)
    clear hb4
    go_wp2_with fail
    refine (HV4.out w4 HR4.out).mono ?_
    rintro e w5 ⟨rfl, hb5⟩
    have HB5 := Lib.hid (HB4.out.trans (hb5.mono HB4.out.size))
    have HR5 := Lib.hid (HR4.out.below hb5)
    clear hb5
    by_cases h64 : 64 ≤ R.length
    · have h64i : (64 : Int) ≤ (R.length : Int) := by omega
      clear h64
      go_wp2_with fail
      go_ret
      exact ⟨rfl, HB5.out⟩
    · have h64i : ¬ (64 : Int) ≤ (R.length : Int) := by omega
      clear h64
      go_wp2_with fail
      refine (HV2.out w5 HR5.out).mono ?_
      rintro e w6 ⟨rfl, hb6⟩
      have HB6 := Lib.hid (HB5.out.trans (hb6.mono HB5.out.size))
      clear hb6
      have hfit2 : ((X.toNat : Int) / 2 ^ R.length == 0) = true := by have := HFIT.out; rwa [Nat.min_eq_left (by omega)] at this
      go_wp2_with fail
      go_ret
      exact ⟨rfl, HB6.out⟩
  · have hli : ¬ (R.length : Int) ≤ 200 := by omega
    clear hl
    go_enter Try.func7, Try.ntmps7
    go_wp2_with fail
    refine HAW.out.mono ?_
    rintro e w1 ⟨rfl, hb1⟩
    have HB1 := Lib.hid hb1
    clear hb1
    go_wp2_with fail
    go_ret
    exact ⟨rfl, HB1.out⟩
end Go.Proofs.Ytodiokladojnjaa.B
