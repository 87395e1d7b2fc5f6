/- law10.HashInverts. -/
import Derived.Test.YtodiokladojnjaaHsA
import Derived.Test.YtodiokladojnjaaHsK2
import Derived.Test.YtodiokladojnjaaBDice
namespace Go.Proofs.Ytodiokladojnjaa.B
open Go Go.RowKit Go.Shelf

set_option maxRecDepth 100000 in
set_option maxHeartbeats 40000000 in
theorem hashInverts_any (a : Option Addr) (cap : Nat) (ts : List Int) (x : Int) (w : World) (hR : IRow w a ts cap) (hx : In64 x) :
    Calls Try.prog 5 #[.slice a ts.length cap, .int .i64 x] w fun e W => e = .returned (.bool true) ∧ Below w.heap.size w W := by
  have hroom := hR.room
  have hmost := hR.most
  by_cases hl : ts.length ≤ 400
  · have hlt := light_any a ts.length cap w
    rw [decide_eq_true (show (ts.length : Int) ≤ 400 by omega)] at hlt
    have HL := Lib.hid hlt
    have HRO := Lib.hid (roll_any a cap ts w hR hl)
    clear hlt hR
    go_enter Try.func5, Try.ntmps5
    go_wp2_with fail
    refine HL.out.mono ?_
    rintro e w1 ⟨rfl, hw⟩
    obtain rfl := hw.symm
    go_wp2_with fail
    refine HRO.out.mono ?_
    rintro e w2 ⟨rfl, hd2, hb2⟩
    have HB2 := Lib.hid hb2
    have hs2 := hd2.lt
    have HN := Lib.hid (next_any w2 w.heap.size a cap ts 0 13 (by decide) (by decide) hd2)
    clear hd2 hb2 HL HRO
    go_wp2_with fail
    refine HN.out.mono ?_
    rintro e w3 ⟨b, k3, hb13, rfl, hd3, hg3⟩
    have HB3 := Lib.hid (HB2.out.trans (below_dice hg3 (Nat.le_refl _) (Nat.le_of_lt hs2)))
    have hs3 := hd3.lt
    have HM := Lib.hid (mask_any w3 w.heap.size a cap ts k3 b (by omega) hd3)
    clear hd3 hg3 HN
    go_wp2_with fail
    refine HM.out.mono ?_
    rintro e w4 ⟨X, ax, cx, k4, rfl, hl4, hf4, ho4, hd4, hg4, hk4⟩
    have HX := Lib.hid (hs_masks hl4 (by omega) hf4 hk4)
    have HB4 := Lib.hid (HB3.out.trans (below_dice hg4 (Nat.le_refl _) (Nat.le_of_lt hs3)))
    have hs4 := hd4.lt
    have HOX := Lib.hid ho4
    have HM2 := Lib.hid (mask_any w4 w.heap.size a cap ts k4 b (by omega) hd4)
    clear hd4 hg4 HM hl4 hf4 ho4 hk4
    go_wp2_with fail
    refine HM2.out.mono ?_
    rintro e w5 ⟨Y, ay, cy, k5, rfl, hl5, hf5, ho5, hd5, hg5, hk5⟩
    have HY := Lib.hid (hs_masks hl5 (by omega) hf5 hk5)
    have HB5 := Lib.hid (HB4.out.trans (below_dice hg5 (Nat.le_refl _) (Nat.le_of_lt hs4)))
    have hs5 := hd5.lt
    have HOX5 := Lib.hid (HOX.out.far hg5 hs3)
    have HOY := Lib.hid ho5
    have HM3 := Lib.hid (mask_any w5 w.heap.size a cap ts k5 b (by omega) hd5)
    clear hd5 hg5 HM2 hl5 hf5 ho5 hk5 HOX
    go_wp2_with fail
    refine HM3.out.mono ?_
    rintro e w6 ⟨Z, az, cz, k6, rfl, hl6, hf6, ho6, hd6, hg6, hk6⟩
    have HZ := Lib.hid (hs_masks hl6 (by omega) hf6 hk6)
    have HB6 := Lib.hid (HB5.out.trans (below_dice hg6 (Nat.le_refl _) (Nat.le_of_lt hs5)))
    have RX6 := Lib.hid (HOX5.out.far hg6 hs3).rowAt
    have RY6 := Lib.hid (HOY.out.far hg6 hs4).rowAt
    have RZ6 := Lib.hid ho6.rowAt
    clear hd6 hg6 HM3 hl6 hf6 ho6 hk6 HOX5 HOY
    have hb12 : b ≤ 12 := by omega
    have hsh := shl_small b hb12
    obtain ⟨m, hm⟩ : ∃ m : Nat, 2 ^ b = m := ⟨_, rfl⟩
    have hm1 : 1 ≤ m := by rw [← hm]; exact Nat.two_pow_pos b
    have hm2 : m ≤ 4096 := by rw [← hm]; exact Nat.pow_le_pow_right (by decide) hb12
    rw [hm] at hsh
    obtain ⟨n, hn, hnm⟩ := mod_nat x m hm1
    have HMO := Lib.hid (mod_any x m (by omega) (by omega) w6)
    rw [hn] at HMO
    obtain ⟨p, hp⟩ : ∃ p : V, BitVec.ofNat 64 n = p := ⟨_, rfl⟩
    have hpn : (p.toNat : Int) = (n : Int) := by rw [← hp, nat_back (b := b) (by omega) (by rw [hm]; exact hnm)]
    have HP := Lib.hid (show HS.Fits b p by rw [← hp]; exact fits_nat (by omega) (by rw [hm]; exact hnm))
    rw [← hpn] at HMO
    have hpl : p.toNat < 4096 := by omega
    have hwn : IntKind.u64.wrap (p.toNat : Int) = (p.toNat : Int) := u64_wrap p.toNat (by omega)
    clear hn hp hm hpn
    go_wp2_with fail
    refine HMO.out.mono ?_
    rintro e w7 ⟨rfl, hw⟩
    obtain rfl := hw
    have HCw8 := Lib.hid (hinv_hs HX.out RX6.out)
    go_wp2_with fail
    refine HCw8.out.mono ?_
    rintro e w8 ⟨⟨aI, cI, I, rfl, hr, hh, hv⟩, hb⟩
    have HBw8 := Lib.hid (HB6.out.trans (hb.mono HB6.out.size))
    have RXw8 := Lib.hid (RX6.out.below hb)
    have RYw8 := Lib.hid (RY6.out.below hb)
    have RZw8 := Lib.hid (RZ6.out.below hb)
    have RIw8 := Lib.hid hr
    have HI := Lib.hid hh
    have VI := Lib.hid hv
    clear hr hh hv HCw8
    clear hb HB6 RX6 RY6 RZ6
    have HCw9 := Lib.hid (hjoin_hs HX.out HY.out RXw8.out RYw8.out)
    go_wp2_with fail
    refine HCw9.out.mono ?_
    rintro e w9 ⟨⟨aP, cP, P, rfl, hr, hh, hv⟩, hb⟩
    have HBw9 := Lib.hid (HBw8.out.trans (hb.mono HBw8.out.size))
    have RXw9 := Lib.hid (RXw8.out.below hb)
    have RYw9 := Lib.hid (RYw8.out.below hb)
    have RZw9 := Lib.hid (RZw8.out.below hb)
    have RIw9 := Lib.hid (RIw8.out.below hb)
    have RPw9 := Lib.hid hr
    have HP' := Lib.hid hh
    have VP := Lib.hid hv
    clear hr hh hv HCw9
    clear hb HBw8 RXw8 RYw8 RZw8 RIw8
    have HCw10 := Lib.hid (hjoin_hs HP'.out HZ.out RPw9.out RZw9.out)
    go_wp2_with fail
    refine HCw10.out.mono ?_
    rintro e w10 ⟨⟨aQ, cQ, Q, rfl, hr, hh, hv⟩, hb⟩
    have HBw10 := Lib.hid (HBw9.out.trans (hb.mono HBw9.out.size))
    have RXw10 := Lib.hid (RXw9.out.below hb)
    have RYw10 := Lib.hid (RYw9.out.below hb)
    have RZw10 := Lib.hid (RZw9.out.below hb)
    have RIw10 := Lib.hid (RIw9.out.below hb)
    have RPw10 := Lib.hid (RPw9.out.below hb)
    have RQw10 := Lib.hid hr
    have HQ := Lib.hid hh
    have VQ := Lib.hid hv
    clear hr hh hv HCw10
    clear hb HBw9 RXw9 RYw9 RZw9 RIw9 RPw9
    have HCw11 := Lib.hid (hjoin_hs HY.out HZ.out RYw10.out RZw10.out)
    go_wp2_with fail
    refine HCw11.out.mono ?_
    rintro e w11 ⟨⟨aS, cS, S, rfl, hr, hh, hv⟩, hb⟩
    have HBw11 := Lib.hid (HBw10.out.trans (hb.mono HBw10.out.size))
    have RXw11 := Lib.hid (RXw10.out.below hb)
    have RYw11 := Lib.hid (RYw10.out.below hb)
    have RZw11 := Lib.hid (RZw10.out.below hb)
    have RIw11 := Lib.hid (RIw10.out.below hb)
    have RPw11 := Lib.hid (RPw10.out.below hb)
    have RQw11 := Lib.hid (RQw10.out.below hb)
    have RSw11 := Lib.hid hr
    have HS' := Lib.hid hh
    have VS := Lib.hid hv
    clear hr hh hv HCw11
    clear hb HBw10 RXw10 RYw10 RZw10 RIw10 RPw10 RQw10
    have HCw12 := Lib.hid (hjoin_hs HX.out HS'.out RXw11.out RSw11.out)
    go_wp2_with fail
    refine HCw12.out.mono ?_
    rintro e w12 ⟨⟨aT, cT, T, rfl, hr, hh, hv⟩, hb⟩
    have HBw12 := Lib.hid (HBw11.out.trans (hb.mono HBw11.out.size))
    have RXw12 := Lib.hid (RXw11.out.below hb)
    have RYw12 := Lib.hid (RYw11.out.below hb)
    have RZw12 := Lib.hid (RZw11.out.below hb)
    have RIw12 := Lib.hid (RIw11.out.below hb)
    have RPw12 := Lib.hid (RPw11.out.below hb)
    have RQw12 := Lib.hid (RQw11.out.below hb)
    have RSw12 := Lib.hid (RSw11.out.below hb)
    have RTw12 := Lib.hid hr
    have HT := Lib.hid hh
    have VT := Lib.hid hv
    clear hr hh hv HCw12
    clear hb HBw11 RXw11 RYw11 RZw11 RIw11 RPw11 RQw11 RSw11
    have HCw13 := Lib.hid (hjoin_hs HX.out HI.out RXw12.out RIw12.out)
    go_wp2_with fail
    refine HCw13.out.mono ?_
    rintro e w13 ⟨⟨aU, cU, U, rfl, hr, hh, hv⟩, hb⟩
    have HBw13 := Lib.hid (HBw12.out.trans (hb.mono HBw12.out.size))
    have RXw13 := Lib.hid (RXw12.out.below hb)
    have RYw13 := Lib.hid (RYw12.out.below hb)
    have RZw13 := Lib.hid (RZw12.out.below hb)
    have RIw13 := Lib.hid (RIw12.out.below hb)
    have RPw13 := Lib.hid (RPw12.out.below hb)
    have RQw13 := Lib.hid (RQw12.out.below hb)
    have RSw13 := Lib.hid (RSw12.out.below hb)
    have RTw13 := Lib.hid (RTw12.out.below hb)
    have RUw13 := Lib.hid hr
    have HU := Lib.hid hh
    have VU := Lib.hid hv
    clear hr hh hv HCw13
    clear hb HBw12 RXw12 RYw12 RZw12 RIw12 RPw12 RQw12 RSw12 RTw12
    have HCw14 := Lib.hid (hawake_yes w13)
    go_wp2_with fail
    refine HCw14.out.mono ?_
    rintro e w14 ⟨rfl, hb⟩
    have HBw14 := Lib.hid (HBw13.out.trans (hb.mono HBw13.out.size))
    have RXw14 := Lib.hid (RXw13.out.below hb)
    have RYw14 := Lib.hid (RYw13.out.below hb)
    have RZw14 := Lib.hid (RZw13.out.below hb)
    have RIw14 := Lib.hid (RIw13.out.below hb)
    have RPw14 := Lib.hid (RPw13.out.below hb)
    have RQw14 := Lib.hid (RQw13.out.below hb)
    have RSw14 := Lib.hid (RSw13.out.below hb)
    have RTw14 := Lib.hid (RTw13.out.below hb)
    have RUw14 := Lib.hid (RUw13.out.below hb)
    clear HCw14
    clear hb HBw13 RXw13 RYw13 RZw13 RIw13 RPw13 RQw13 RSw13 RTw13 RUw13
    have hI := VI.out p HP.out
    have hPp := VP.out p
    have hUp := VU.out p
    obtain ⟨xp, hxp⟩ : ∃ xp, valV X p = xp := ⟨_, rfl⟩
    obtain ⟨ip, hip⟩ : ∃ ip, valV I p = ip := ⟨_, rfl⟩
    obtain ⟨yx, hyx⟩ : ∃ yx, valV Y xp = yx := ⟨_, rfl⟩
    rw [hxp, hip] at hI
    rw [hxp, hyx] at hPp
    rw [hxp, hI.1] at hUp
    have E1 := Lib.hid hI.1
    have E2 := Lib.hid hI.2
    have E3 := Lib.hid hPp
    have E4 := Lib.hid hUp
    have E5 := Lib.hid hxp
    have E6 := Lib.hid hip
    have E7 := Lib.hid hyx
    have E8 := Lib.hid (hs_same HQ.out HT.out (fun v => by rw [VQ.out, VP.out, VT.out, VS.out]))
    clear hI hPp hUp hxp hip hyx
    clear VI VP VQ VS VT VU HP
    have HCw15 := Lib.hid (value_hs HX.out RXw14.out (p))
    rw [E5.out] at HCw15
    go_wp2_with fail
    refine HCw15.out.mono ?_
    rintro e w15 ⟨rfl, hb⟩
    have HBw15 := Lib.hid (HBw14.out.trans (hb.mono HBw14.out.size))
    have RXw15 := Lib.hid (RXw14.out.below hb)
    have RYw15 := Lib.hid (RYw14.out.below hb)
    have RZw15 := Lib.hid (RZw14.out.below hb)
    have RIw15 := Lib.hid (RIw14.out.below hb)
    have RPw15 := Lib.hid (RPw14.out.below hb)
    have RQw15 := Lib.hid (RQw14.out.below hb)
    have RSw15 := Lib.hid (RSw14.out.below hb)
    have RTw15 := Lib.hid (RTw14.out.below hb)
    have RUw15 := Lib.hid (RUw14.out.below hb)
    clear HCw15
    clear hb HBw14 RXw14 RYw14 RZw14 RIw14 RPw14 RQw14 RSw14 RTw14 RUw14
    have HCw16 := Lib.hid (value_hs HI.out RIw15.out (xp))
    rw [E1.out] at HCw16
    go_wp2_with fail
    refine HCw16.out.mono ?_
    rintro e w16 ⟨rfl, hb⟩
    have HBw16 := Lib.hid (HBw15.out.trans (hb.mono HBw15.out.size))
    have RXw16 := Lib.hid (RXw15.out.below hb)
    have RYw16 := Lib.hid (RYw15.out.below hb)
    have RZw16 := Lib.hid (RZw15.out.below hb)
    have RIw16 := Lib.hid (RIw15.out.below hb)
    have RPw16 := Lib.hid (RPw15.out.below hb)
    have RQw16 := Lib.hid (RQw15.out.below hb)
    have RSw16 := Lib.hid (RSw15.out.below hb)
    have RTw16 := Lib.hid (RTw15.out.below hb)
    have RUw16 := Lib.hid (RUw15.out.below hb)
    clear HCw16
    clear hb HBw15 RXw15 RYw15 RZw15 RIw15 RPw15 RQw15 RSw15 RTw15 RUw15
    have HCw17 := Lib.hid (value_hs HI.out RIw16.out (p))
    rw [E6.out] at HCw17
    go_wp2_with fail
    refine HCw17.out.mono ?_
    rintro e w17 ⟨rfl, hb⟩
    have HBw17 := Lib.hid (HBw16.out.trans (hb.mono HBw16.out.size))
    have RXw17 := Lib.hid (RXw16.out.below hb)
    have RYw17 := Lib.hid (RYw16.out.below hb)
    have RZw17 := Lib.hid (RZw16.out.below hb)
    have RIw17 := Lib.hid (RIw16.out.below hb)
    have RPw17 := Lib.hid (RPw16.out.below hb)
    have RQw17 := Lib.hid (RQw16.out.below hb)
    have RSw17 := Lib.hid (RSw16.out.below hb)
    have RTw17 := Lib.hid (RTw16.out.below hb)
    have RUw17 := Lib.hid (RUw16.out.below hb)
    clear HCw17
    clear hb HBw16 RXw16 RYw16 RZw16 RIw16 RPw16 RQw16 RSw16 RTw16 RUw16
    have HCw18 := Lib.hid (value_hs HX.out RXw17.out (ip))
    rw [E2.out] at HCw18
    go_wp2_with fail
    refine HCw18.out.mono ?_
    rintro e w18 ⟨rfl, hb⟩
    have HBw18 := Lib.hid (HBw17.out.trans (hb.mono HBw17.out.size))
    have RXw18 := Lib.hid (RXw17.out.below hb)
    have RYw18 := Lib.hid (RYw17.out.below hb)
    have RPw18 := Lib.hid (RPw17.out.below hb)
    have RQw18 := Lib.hid (RQw17.out.below hb)
    have RTw18 := Lib.hid (RTw17.out.below hb)
    have RUw18 := Lib.hid (RUw17.out.below hb)
    clear HCw18
    clear hb HBw17 RXw17 RYw17 RZw17 RIw17 RPw17 RQw17 RSw17 RTw17 RUw17
    have HCw19 := Lib.hid (value_hs HP'.out RPw18.out (p))
    rw [E3.out] at HCw19
    go_wp2_with fail
    refine HCw19.out.mono ?_
    rintro e w19 ⟨rfl, hb⟩
    have HBw19 := Lib.hid (HBw18.out.trans (hb.mono HBw18.out.size))
    have RXw19 := Lib.hid (RXw18.out.below hb)
    have RYw19 := Lib.hid (RYw18.out.below hb)
    have RPw19 := Lib.hid (RPw18.out.below hb)
    have RQw19 := Lib.hid (RQw18.out.below hb)
    have RTw19 := Lib.hid (RTw18.out.below hb)
    have RUw19 := Lib.hid (RUw18.out.below hb)
    clear HCw19
    clear hb HBw18 RXw18 RYw18 RPw18 RQw18 RTw18 RUw18
    have HCw20 := Lib.hid (value_hs HX.out RXw19.out (p))
    rw [E5.out] at HCw20
    go_wp2_with fail
    refine HCw20.out.mono ?_
    rintro e w20 ⟨rfl, hb⟩
    have HBw20 := Lib.hid (HBw19.out.trans (hb.mono HBw19.out.size))
    have RXw20 := Lib.hid (RXw19.out.below hb)
    have RYw20 := Lib.hid (RYw19.out.below hb)
    have RPw20 := Lib.hid (RPw19.out.below hb)
    have RQw20 := Lib.hid (RQw19.out.below hb)
    have RTw20 := Lib.hid (RTw19.out.below hb)
    have RUw20 := Lib.hid (RUw19.out.below hb)
    clear HCw20
    clear hb HBw19 RXw19 RYw19 RPw19 RQw19 RTw19 RUw19
    have HCw21 := Lib.hid (value_hs HY.out RYw20.out (xp))
    rw [E7.out] at HCw21
    go_wp2_with fail
    refine HCw21.out.mono ?_
    rintro e w21 ⟨rfl, hb⟩
    have HBw21 := Lib.hid (HBw20.out.trans (hb.mono HBw20.out.size))
    have RXw21 := Lib.hid (RXw20.out.below hb)
    have RYw21 := Lib.hid (RYw20.out.below hb)
    have RPw21 := Lib.hid (RPw20.out.below hb)
    have RQw21 := Lib.hid (RQw20.out.below hb)
    have RTw21 := Lib.hid (RTw20.out.below hb)
    have RUw21 := Lib.hid (RUw20.out.below hb)
    clear HCw21
    clear hb HBw20 RXw20 RYw20 RPw20 RQw20 RTw20 RUw20
    have HCw22 := Lib.hid (same_hs RQw21.out RTw21.out HQ.out HT.out E8.out)
    go_wp2_with fail
    refine HCw22.out.mono ?_
    rintro e w22 ⟨rfl, hb⟩
    have HBw22 := Lib.hid (HBw21.out.trans (hb.mono HBw21.out.size))
    have RXw22 := Lib.hid (RXw21.out.below hb)
    have RYw22 := Lib.hid (RYw21.out.below hb)
    have RPw22 := Lib.hid (RPw21.out.below hb)
    have RQw22 := Lib.hid (RQw21.out.below hb)
    have RTw22 := Lib.hid (RTw21.out.below hb)
    have RUw22 := Lib.hid (RUw21.out.below hb)
    clear HCw22
    clear hb HBw21 RXw21 RYw21 RPw21 RQw21 RTw21 RUw21
    have HCw23 := Lib.hid (value_hs HU.out RUw22.out (p))
    rw [E4.out] at HCw23
    go_wp2_with fail
    refine HCw23.out.mono ?_
    rintro e w23 ⟨rfl, hb⟩
    have HBw23 := Lib.hid (HBw22.out.trans (hb.mono HBw22.out.size))
    have RXw23 := Lib.hid (RXw22.out.below hb)
    have RYw23 := Lib.hid (RYw22.out.below hb)
    have RPw23 := Lib.hid (RPw22.out.below hb)
    have RQw23 := Lib.hid (RQw22.out.below hb)
    have RTw23 := Lib.hid (RTw22.out.below hb)
    have RUw23 := Lib.hid (RUw22.out.below hb)
    clear HCw23
    clear hb HBw22 RXw22 RYw22 RPw22 RQw22 RTw22 RUw22
    go_wp2_with fail
    go_ret
    exact ⟨rfl, HBw23.out⟩
  · have hli : ¬ (ts.length : Int) ≤ 400 := by omega
    have hlt := light_any a ts.length cap w
    rw [decide_eq_false hli] at hlt
    have HL := Lib.hid hlt
    have HAW := Lib.hid (hawake_yes w)
    clear hl hlt hR
    go_enter Try.func5, Try.ntmps5
    go_wp2_with fail
    refine HL.out.mono ?_
    rintro e w1 ⟨rfl, hw⟩
    obtain rfl := hw.symm
    go_wp2_with fail
    refine HAW.out.mono ?_
    rintro e w2 ⟨rfl, hb⟩
    have HB := Lib.hid hb
    clear hb
    go_wp2_with fail
    go_ret
    exact ⟨rfl, HB.out⟩
end Go.Proofs.Ytodiokladojnjaa.B
