/- hash.square, Check; ref10.Check. -/
import Derived.Test.YtodiokladojnjaaBRank
import Derived.Test.YtodiokladojnjaaBRef5
import Derived.Test.YtodiokladojnjaaHsV
namespace Go.Proofs.Ytodiokladojnjaa.B
open Go Go.RowKit Go.Shelf

/-- What Check answers. -/
def chkE (R : List V) : Int := if 64 < R.length then 7 else if R.length = 0 then 0 else if validB R.length R then (if rankN R.length R < R.length then 10 else 0) else 2
theorem ret_agg {a b : Value} (h : a = b) : Ending.returned a = .returned b := by rw [h]

set_option maxRecDepth 100000 in
theorem square_any (a : Option Addr) (n cap : Nat) (w : World) :
    Calls Try.prog 27 #[.slice a n cap] w fun e W => e = .returned (.agg #[.int .i64 (n : Int), .slice a n cap]) ∧ Below w.heap.size w W := by
  go_enter Try.func27, Try.ntmps27
  go_wp2_with fail
  exact bodyPost_ret (v := .agg #[.int .i64 (n : Int), .slice a n cap]) (by simp [results, Try.results27, go_sem]) rfl ⟨rfl, (Below.refl _ w).alloc (Nat.le_refl _) _⟩

set_option maxRecDepth 100000 in
set_option maxHeartbeats 1000000 in
theorem check_any (a : Option Addr) (cap : Nat) (R : List V) (w : World) (hR : Row w a R cap) :
    Calls Try.prog 17 #[.slice a R.length cap] w fun e W => e = .returned (.int .i64 (chkE R)) ∧ Below w.heap.size w W := by
  have hroom := hR.room
  have hmost := hR.most
  by_cases h1 : 64 < R.length
  · have he : chkE R = 7 := by unfold chkE; rw [if_pos h1]
    rw [he]; clear he
    go_enter Try.func17, Try.ntmps17
    go_wp2_with fail
    go_ret
    exact ⟨rfl, Below.refl _ _⟩
  by_cases h2 : R.length = 0
  · have he : chkE R = 0 := by unfold chkE; rw [if_neg h1, if_pos h2]
    rw [he]; clear he
    rw [h2]
    clear h1 hroom
    go_enter Try.func17, Try.ntmps17
    go_wp2_with fail
    go_ret
    exact ⟨rfl, Below.refl _ _⟩
  obtain ⟨c, hc⟩ : ∃ c, chkE R = c := ⟨_, rfl⟩
  have hE : (if validB R.length R then (if rankN R.length R < R.length then (10 : Int) else 0) else 2) = c := by
    rw [← hc]; unfold chkE; rw [if_neg h1, if_neg h2]
  rw [hc]; clear hc
  have HE := Lib.hid hE
  have HR := Lib.hid hR
  clear hE hR
  have h2i : ((R.length : Int) == 0) = false := beq_eq_false_iff_ne.2 (by omega)
  have HS := Lib.hid (square_any a R.length cap w)
  clear h2
  go_enter Try.func17, Try.ntmps17
  go_wp2_with fail
  refine HS.out.mono ?_
  rintro e w1 ⟨rfl, hb1⟩
  have hbx := MBox.new w1 (R.length : Int) a R.length cap 49
  have hr1 := (HR.out.below hb1).alloc (.cells #[.int .i64 (R.length : Int), .slice a R.length cap] 49)
  have hb2 := hb1.alloc hb1.size (.cells #[.int .i64 (R.length : Int), .slice a R.length cap] 49)
  have HBX := Lib.hid hbx
  have c0 := hbx.c0
  have c1 := hbx.c1
  clear hbx
  obtain ⟨w2, hw2⟩ : ∃ w2, w1.alloc (.cells #[.int .i64 (R.length : Int), .slice a R.length cap] 49) = w2 := ⟨_, rfl⟩
  rw [hw2] at hr1 hb2 c0 c1
  have HR2 := Lib.hid hr1
  have HB2 := Lib.hid hb2
  have HV := Lib.hid (valid_any R.length a cap R w2 hr1)
  clear hr1 hb2 hb1
  go_wp2_with fail
  refine HV.out.mono ?_
  rintro e w3 ⟨rfl, hb3⟩
  have d0 := cell_below hb3 c0
  have d1 := cell_below hb3 c1
  have HR3 := Lib.hid (HR2.out.below hb3)
  have HB3 := Lib.hid (HB2.out.trans (hb3.mono HB2.out.size))
  clear hb3 HV HR2 HB2 c0 c1
  cases hv : validB R.length R with
  | false =>
    have hE := HE.out
    rw [hv] at hE
    have HC := Lib.hid (show c = 2 from hE.symm)
    clear hE hv HE
    go_wp2_with fail
    go_ret
    exact ⟨by rw [HC.out]; rfl, HB3.out⟩
  | true =>
    have hE := HE.out
    rw [hv] at hE
    have HC := Lib.hid (show (if rankN R.length R < R.length then (10 : Int) else 0) = c from hE)
    have HK := Lib.hid (rank_any R.length a cap R w3 HR3.out)
    clear hE hv HE
    go_wp2_with fail
    refine HK.out.mono ?_
    rintro e w4 ⟨rfl, hb4⟩
    have HB4 := Lib.hid (HB3.out.trans (hb4.mono HB3.out.size))
    clear hb4 HK
    obtain ⟨rk, hrk⟩ : ∃ rk, rankN R.length R = rk := ⟨_, rfl⟩
    have hC := HC.out
    rw [hrk] at hC ⊢
    have HC2 := Lib.hid hC
    clear hC HC hrk
    by_cases hlt : rk < R.length
    · have hli : (rk : Int) < (R.length : Int) := by omega
      have HL := Lib.hid hlt
      clear hlt
      go_wp2_with fail
      go_ret
      exact ⟨by rw [← HC2.out, if_pos HL.out]; rfl, HB4.out⟩
    · have hli : ¬ (rk : Int) < (R.length : Int) := by omega
      have HL := Lib.hid hlt
      clear hlt
      go_wp2_with fail
      go_ret
      exact ⟨by rw [← HC2.out, if_neg HL.out]; rfl, HB4.out⟩

set_option maxRecDepth 100000 in
set_option maxHeartbeats 1000000 in
theorem rcheck_any (a : Option Addr) (cap : Nat) (R : List V) (w : World) (hR : Row w a R cap) :
    Calls Try.prog 18 #[.slice a R.length cap] w fun e W => e = .returned (.int .i64 (chkE R)) ∧ Below w.heap.size w W := by
  have hroom := hR.room
  have hmost := hR.most
  by_cases h1 : 64 < R.length
  · have he : chkE R = 7 := by unfold chkE; rw [if_pos h1]
    rw [he]; clear he
    go_enter Try.func18, Try.ntmps18
    go_wp2_with fail
    go_ret
    exact ⟨rfl, Below.refl _ _⟩
  by_cases h2 : R.length = 0
  · have he : chkE R = 0 := by unfold chkE; rw [if_neg h1, if_pos h2]
    rw [he]; clear he
    rw [h2]
    clear h1 hroom
    go_enter Try.func18, Try.ntmps18
    go_wp2_with fail
    go_loopw [4] (fun i wr => i = .int .i64 0 ∧ wr = w) (fun _ _ => 0)
    case atStart => exact ⟨rfl, rfl⟩
    case round =>
      obtain ⟨rfl, rfl⟩ := hrel
      go_wp2_with fail
      go_ret
      exact ⟨rfl, Below.refl _ _⟩
  have HR := Lib.hid hR
  clear hR
  have HRK := Lib.hid (rrank_any R.length a cap R w HR.out)
  have hp : (0 : Int) < (R.length : Int) := by omega
  have hC : chkE R = if validB R.length R then (if rankN R.length R < R.length then (10 : Int) else 0) else 2 := by unfold chkE; rw [if_neg h1, if_neg h2]
  have hVV : (∀ j, j < R.length → fitB (el R j) R.length = true) → validB R.length R = true := fun h => (MV.mk (by omega) (by omega) (by omega) (by omega) h).yes
  have hVN : ∀ j, j < R.length → fitB (el R j) R.length = false → validB R.length R = false := fun j hj h => by
    cases e : validB R.length R with
    | false => rfl
    | true =>
      obtain ⟨D, hD, hM⟩ := MV.of e
      have := hM.fit j hj
      rw [show D = R.length by omega, h] at this
      cases this
  have HC := Lib.hid hC
  have HVV := Lib.hid hVV
  have HVN := Lib.hid hVN
  clear hC hVV hVN h2
  go_enter Try.func18, Try.ntmps18
  go_wp2_with fail
  go_loopw [4] (fun i wr => ∃ k : Nat, i = .int .i64 (k : Int) ∧ k ≤ R.length ∧ (∀ j, j < k → fitB (el R j) R.length = true) ∧ wr = w) (fun i _ => R.length - (intOf i).toNat)
  case atStart => exact ⟨0, rfl, Nat.zero_le _, fun j hj => absurd hj (Nat.not_lt_zero j), rfl⟩
  case round =>
    obtain ⟨k, rfl, hk, hf, rfl⟩ := hrel
    have HF := Lib.hid hf
    clear hf
    by_cases hlt : k < R.length
    · obtain ⟨b, off, rfl, hcell⟩ := HR.out.elV k hlt
      have HBY := Lib.hid (beyond_any (el R k) R.length wr)
      go_wp2_with fail
      refine HBY.out.mono ?_
      rintro e w4 ⟨rfl, hw⟩
      obtain rfl := hw.symm
      cases hq : fitB (el R k) R.length with
      | true =>
        have HQ := Lib.hid hq
        clear hq
        go_wp2_with fail
        go_roundw
        case rel =>
          refine ⟨k + 1, by go_num, by omega, fun j hj => ?_, by first | rfl | trivial⟩
          by_cases e : j = k
          · rw [e]; exact HQ.out
          · exact HF.out j (by omega)
        case measure => simp [intOf]; omega
      | false =>
        have HE := Lib.hid (show chkE R = 2 by rw [HC.out, HVN.out k hlt hq]; rfl)
        clear hq
        go_wp2_with fail
        go_ret
        exact ⟨by rw [HE.out]; rfl, Below.refl _ _⟩
    · obtain rfl : k = R.length := by omega
      have HE := Lib.hid (show chkE R = if rankN R.length R < R.length then (10 : Int) else 0 by rw [HC.out, HVV.out HF.out]; rfl)
      clear HC HVV HVN HF
      go_wp2_with fail
      refine HRK.out.mono ?_
      rintro e w4 ⟨rfl, hb4⟩
      have HB4 := Lib.hid hb4
      clear hb4 HRK
      obtain ⟨rk, hrk⟩ : ∃ rk, rankN R.length R = rk := ⟨_, rfl⟩
      have hC := HE.out
      rw [hrk] at hC ⊢
      have HC2 := Lib.hid hC
      clear hC HE hrk
      by_cases hlt : rk < R.length
      · have hli : (rk : Int) < (R.length : Int) := by omega
        have HL := Lib.hid hlt
        clear hlt
        go_wp2_with fail
        go_ret
        exact ⟨by rw [HC2.out, if_pos HL.out]; rfl, HB4.out⟩
      · have hli : ¬ (rk : Int) < (R.length : Int) := by omega
        have HL := Lib.hid hlt
        clear hlt
        go_wp2_with fail
        go_ret
        exact ⟨by rw [HC2.out, if_neg HL.out]; rfl, HB4.out⟩
end Go.Proofs.Ytodiokladojnjaa.B
