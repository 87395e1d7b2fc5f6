/- law04.agree; the walk of PolyRaw. -/
import Derived.Test.YtfbogjibofeckaaPBoth
namespace Go.Proofs.Ytfbogjibofeckaa.P
open Go Go.RowKit Go.Shelf

set_option maxRecDepth 100000 in
set_option maxHeartbeats 4000000 in
/-- **law04.agree** -/
theorem agree_any (a_p a_q : Option Addr) (c_p c_q : Nat) (p q : List PM.G) (x : PM.G) (w0 : World) (hlp : p.length ≤ 300) (hp : Row w0 a_p p c_p) (hq : Row w0 a_q q c_q) :
    Calls Try.prog 10 #[.slice a_p p.length c_p, .slice a_q q.length c_q, .int .u8 (x.v : Int)] w0 fun e W => e = .returned (.bool true) ∧ Below w0.heap.size w0 W := by
  obtain ⟨E1, r1, A1, B1⟩ := add_both p q
  obtain ⟨E2, r2, A2, B2⟩ := mul_both p q
  obtain ⟨E3, r3, s3, A3, B3⟩ := div_both p q
  obtain ⟨E4, r4, A4, B4⟩ := gcd_both p q
  obtain ⟨A5, B5⟩ := valid_both p
  obtain ⟨A6, B6⟩ := trim_both p hlp
  obtain ⟨r7, A7, B7⟩ := derive_both p
  obtain ⟨r8, A8, B8⟩ := roots_both p
  have HA1 := Lib.hid A1
  have HB1 := Lib.hid B1
  have HA2 := Lib.hid A2
  have HB2 := Lib.hid B2
  have HA3 := Lib.hid A3
  have HB3 := Lib.hid B3
  have HA4 := Lib.hid A4
  have HB4 := Lib.hid B4
  have HA5 := Lib.hid A5
  have HB5 := Lib.hid B5
  have HA6 := Lib.hid A6
  have HB6 := Lib.hid B6
  have HA7 := Lib.hid A7
  have HB7 := Lib.hid B7
  have HA8 := Lib.hid A8
  have HB8 := Lib.hid B8
  clear A1 B1 A2 B2 A3 B3 A4 B4 A5 B5 A6 B6 A7 B7 A8 B8
  have HRp_0 := Lib.hid hp
  have HRq_0 := Lib.hid hq
  have HB_0 := Lib.hid (Below.refl w0.heap.size w0)
  clear hp hq hlp
  obtain ⟨r6, hr6⟩ : ∃ r6, PM.trimL p = r6 := ⟨_, rfl⟩
  rw [hr6] at HA6 HB6
  clear hr6
  obtain ⟨b5, hb5⟩ : ∃ b5, polB p = b5 := ⟨_, rfl⟩
  rw [hb5] at HA5 HB5
  clear hb5
  go_enter Try.func10, Try.ntmps10
  go_wp2_with fail
  (with_reducible refine (HA1.out.at _ _ _ _ _ HRp_0.out HRq_0.out).mono ?_)
  rintro e w1 ⟨⟨a_a1, c_a1, rfl, hr⟩, hb⟩
  have HRa1_1 := Lib.hid hr
  clear hr
  have HRp_1 := Lib.hid (HRp_0.out.below hb)
  have HRq_1 := Lib.hid (HRq_0.out.below hb)
  have HB_1 := Lib.hid (HB_0.out.trans (hb.mono HB_0.out.size))
  clear hb HRp_0 HRq_0 HB_0
  go_wp2_with fail
  (with_reducible refine (HB1.out.at _ _ _ _ _ HRp_1.out HRq_1.out).mono ?_)
  rintro e w2 ⟨⟨a_b1, c_b1, rfl, hr⟩, hb⟩
  have HRb1_2 := Lib.hid hr
  clear hr
  have HRp_2 := Lib.hid (HRp_1.out.below hb)
  have HRq_2 := Lib.hid (HRq_1.out.below hb)
  have HRa1_2 := Lib.hid (HRa1_1.out.below hb)
  have HB_2 := Lib.hid (HB_1.out.trans (hb.mono HB_1.out.size))
  clear hb HRp_1 HRq_1 HRa1_1 HB_1
  go_wp2_with fail
  (with_reducible refine (HA2.out.at _ _ _ _ _ HRp_2.out HRq_2.out).mono ?_)
  rintro e w3 ⟨⟨a_a2, c_a2, rfl, hr⟩, hb⟩
  have HRa2_3 := Lib.hid hr
  clear hr
  have HRp_3 := Lib.hid (HRp_2.out.below hb)
  have HRq_3 := Lib.hid (HRq_2.out.below hb)
  have HRa1_3 := Lib.hid (HRa1_2.out.below hb)
  have HRb1_3 := Lib.hid (HRb1_2.out.below hb)
  have HB_3 := Lib.hid (HB_2.out.trans (hb.mono HB_2.out.size))
  clear hb HRp_2 HRq_2 HRa1_2 HRb1_2 HB_2
  go_wp2_with fail
  (with_reducible refine (HB2.out.at _ _ _ _ _ HRp_3.out HRq_3.out).mono ?_)
  rintro e w4 ⟨⟨a_b2, c_b2, rfl, hr⟩, hb⟩
  have HRb2_4 := Lib.hid hr
  clear hr
  have HRp_4 := Lib.hid (HRp_3.out.below hb)
  have HRq_4 := Lib.hid (HRq_3.out.below hb)
  have HRa1_4 := Lib.hid (HRa1_3.out.below hb)
  have HRb1_4 := Lib.hid (HRb1_3.out.below hb)
  have HRa2_4 := Lib.hid (HRa2_3.out.below hb)
  have HB_4 := Lib.hid (HB_3.out.trans (hb.mono HB_3.out.size))
  clear hb HRp_3 HRq_3 HRa1_3 HRb1_3 HRa2_3 HB_3
  go_wp2_with fail
  (with_reducible refine (same_yes a_a1 a_b1 c_a1 c_b1 r1 r1 w4 HRa1_4.out HRb1_4.out rfl).mono ?_)
  rintro e w5 ⟨rfl, hb⟩
  have HRp_5 := Lib.hid (HRp_4.out.below hb)
  have HRq_5 := Lib.hid (HRq_4.out.below hb)
  have HRa1_5 := Lib.hid (HRa1_4.out.below hb)
  have HRb1_5 := Lib.hid (HRb1_4.out.below hb)
  have HRa2_5 := Lib.hid (HRa2_4.out.below hb)
  have HRb2_5 := Lib.hid (HRb2_4.out.below hb)
  have HB_5 := Lib.hid (HB_4.out.trans (hb.mono HB_4.out.size))
  clear hb HRp_4 HRq_4 HRa1_4 HRb1_4 HRa2_4 HRb2_4 HB_4
  go_wp2_with fail
  (with_reducible refine (same_yes a_a2 a_b2 c_a2 c_b2 r2 r2 w5 HRa2_5.out HRb2_5.out rfl).mono ?_)
  rintro e w6 ⟨rfl, hb⟩
  have HRp_6 := Lib.hid (HRp_5.out.below hb)
  have HRq_6 := Lib.hid (HRq_5.out.below hb)
  have HRa1_6 := Lib.hid (HRa1_5.out.below hb)
  have HRb1_6 := Lib.hid (HRb1_5.out.below hb)
  have HRa2_6 := Lib.hid (HRa2_5.out.below hb)
  have HRb2_6 := Lib.hid (HRb2_5.out.below hb)
  have HB_6 := Lib.hid (HB_5.out.trans (hb.mono HB_5.out.size))
  clear hb HRp_5 HRq_5 HRa1_5 HRb1_5 HRa2_5 HRb2_5 HB_5
  go_wp2_with fail
  (with_reducible refine (HA3.out.at _ _ _ _ _ HRp_6.out HRq_6.out).mono ?_)
  rintro e w7 ⟨⟨a_a3, c_a3, a_d3, c_d3, rfl, hr, hs⟩, hb⟩
  have HRa3_7 := Lib.hid hr
  have HRd3_7 := Lib.hid hs
  clear hr hs
  have HRp_7 := Lib.hid (HRp_6.out.below hb)
  have HRq_7 := Lib.hid (HRq_6.out.below hb)
  have HRa1_7 := Lib.hid (HRa1_6.out.below hb)
  have HRb1_7 := Lib.hid (HRb1_6.out.below hb)
  have HRa2_7 := Lib.hid (HRa2_6.out.below hb)
  have HRb2_7 := Lib.hid (HRb2_6.out.below hb)
  have HB_7 := Lib.hid (HB_6.out.trans (hb.mono HB_6.out.size))
  clear hb HRp_6 HRq_6 HRa1_6 HRb1_6 HRa2_6 HRb2_6 HB_6
  go_wp2_with fail
  (with_reducible refine (HB3.out.at _ _ _ _ _ HRp_7.out HRq_7.out).mono ?_)
  rintro e w8 ⟨⟨a_b3, c_b3, a_e3, c_e3, rfl, hr, hs⟩, hb⟩
  have HRb3_8 := Lib.hid hr
  have HRe3_8 := Lib.hid hs
  clear hr hs
  have HRp_8 := Lib.hid (HRp_7.out.below hb)
  have HRq_8 := Lib.hid (HRq_7.out.below hb)
  have HRa1_8 := Lib.hid (HRa1_7.out.below hb)
  have HRb1_8 := Lib.hid (HRb1_7.out.below hb)
  have HRa2_8 := Lib.hid (HRa2_7.out.below hb)
  have HRb2_8 := Lib.hid (HRb2_7.out.below hb)
  have HRa3_8 := Lib.hid (HRa3_7.out.below hb)
  have HRd3_8 := Lib.hid (HRd3_7.out.below hb)
  have HB_8 := Lib.hid (HB_7.out.trans (hb.mono HB_7.out.size))
  clear hb HRp_7 HRq_7 HRa1_7 HRb1_7 HRa2_7 HRb2_7 HRa3_7 HRd3_7 HB_7
  go_wp2_with fail
  (with_reducible refine (HA4.out.at _ _ _ _ _ HRp_8.out HRq_8.out).mono ?_)
  rintro e w9 ⟨⟨a_a4, c_a4, rfl, hr⟩, hb⟩
  have HRa4_9 := Lib.hid hr
  clear hr
  have HRp_9 := Lib.hid (HRp_8.out.below hb)
  have HRq_9 := Lib.hid (HRq_8.out.below hb)
  have HRa1_9 := Lib.hid (HRa1_8.out.below hb)
  have HRb1_9 := Lib.hid (HRb1_8.out.below hb)
  have HRa2_9 := Lib.hid (HRa2_8.out.below hb)
  have HRb2_9 := Lib.hid (HRb2_8.out.below hb)
  have HRa3_9 := Lib.hid (HRa3_8.out.below hb)
  have HRd3_9 := Lib.hid (HRd3_8.out.below hb)
  have HRb3_9 := Lib.hid (HRb3_8.out.below hb)
  have HRe3_9 := Lib.hid (HRe3_8.out.below hb)
  have HB_9 := Lib.hid (HB_8.out.trans (hb.mono HB_8.out.size))
  clear hb HRp_8 HRq_8 HRa1_8 HRb1_8 HRa2_8 HRb2_8 HRa3_8 HRd3_8 HRb3_8 HRe3_8 HB_8
  go_wp2_with fail
  (with_reducible refine (HB4.out.at _ _ _ _ _ HRp_9.out HRq_9.out).mono ?_)
  rintro e w10 ⟨⟨a_b4, c_b4, rfl, hr⟩, hb⟩
  have HRb4_10 := Lib.hid hr
  clear hr
  have HRp_10 := Lib.hid (HRp_9.out.below hb)
  have HRq_10 := Lib.hid (HRq_9.out.below hb)
  have HRa1_10 := Lib.hid (HRa1_9.out.below hb)
  have HRb1_10 := Lib.hid (HRb1_9.out.below hb)
  have HRa2_10 := Lib.hid (HRa2_9.out.below hb)
  have HRb2_10 := Lib.hid (HRb2_9.out.below hb)
  have HRa3_10 := Lib.hid (HRa3_9.out.below hb)
  have HRd3_10 := Lib.hid (HRd3_9.out.below hb)
  have HRb3_10 := Lib.hid (HRb3_9.out.below hb)
  have HRe3_10 := Lib.hid (HRe3_9.out.below hb)
  have HRa4_10 := Lib.hid (HRa4_9.out.below hb)
  have HB_10 := Lib.hid (HB_9.out.trans (hb.mono HB_9.out.size))
  clear hb HRp_9 HRq_9 HRa1_9 HRb1_9 HRa2_9 HRb2_9 HRa3_9 HRd3_9 HRb3_9 HRe3_9 HRa4_9 HB_9
  go_wp2_with fail
  (with_reducible refine (same_yes a_a3 a_b3 c_a3 c_b3 r3 r3 w10 HRa3_10.out HRb3_10.out rfl).mono ?_)
  rintro e w11 ⟨rfl, hb⟩
  have HRp_11 := Lib.hid (HRp_10.out.below hb)
  have HRq_11 := Lib.hid (HRq_10.out.below hb)
  have HRa1_11 := Lib.hid (HRa1_10.out.below hb)
  have HRb1_11 := Lib.hid (HRb1_10.out.below hb)
  have HRa2_11 := Lib.hid (HRa2_10.out.below hb)
  have HRb2_11 := Lib.hid (HRb2_10.out.below hb)
  have HRa3_11 := Lib.hid (HRa3_10.out.below hb)
  have HRd3_11 := Lib.hid (HRd3_10.out.below hb)
  have HRb3_11 := Lib.hid (HRb3_10.out.below hb)
  have HRe3_11 := Lib.hid (HRe3_10.out.below hb)
  have HRa4_11 := Lib.hid (HRa4_10.out.below hb)
  have HRb4_11 := Lib.hid (HRb4_10.out.below hb)
  have HB_11 := Lib.hid (HB_10.out.trans (hb.mono HB_10.out.size))
  clear hb HRp_10 HRq_10 HRa1_10 HRb1_10 HRa2_10 HRb2_10 HRa3_10 HRd3_10 HRb3_10 HRe3_10 HRa4_10 HRb4_10 HB_10
  go_wp2_with fail
  (with_reducible refine (same_yes a_d3 a_e3 c_d3 c_e3 s3 s3 w11 HRd3_11.out HRe3_11.out rfl).mono ?_)
  rintro e w12 ⟨rfl, hb⟩
  have HRp_12 := Lib.hid (HRp_11.out.below hb)
  have HRq_12 := Lib.hid (HRq_11.out.below hb)
  have HRa1_12 := Lib.hid (HRa1_11.out.below hb)
  have HRb1_12 := Lib.hid (HRb1_11.out.below hb)
  have HRa2_12 := Lib.hid (HRa2_11.out.below hb)
  have HRb2_12 := Lib.hid (HRb2_11.out.below hb)
  have HRa3_12 := Lib.hid (HRa3_11.out.below hb)
  have HRd3_12 := Lib.hid (HRd3_11.out.below hb)
  have HRb3_12 := Lib.hid (HRb3_11.out.below hb)
  have HRe3_12 := Lib.hid (HRe3_11.out.below hb)
  have HRa4_12 := Lib.hid (HRa4_11.out.below hb)
  have HRb4_12 := Lib.hid (HRb4_11.out.below hb)
  have HB_12 := Lib.hid (HB_11.out.trans (hb.mono HB_11.out.size))
  clear hb HRp_11 HRq_11 HRa1_11 HRb1_11 HRa2_11 HRb2_11 HRa3_11 HRd3_11 HRb3_11 HRe3_11 HRa4_11 HRb4_11 HB_11
  go_wp2_with fail
  (with_reducible refine (same_yes a_a4 a_b4 c_a4 c_b4 r4 r4 w12 HRa4_12.out HRb4_12.out rfl).mono ?_)
  rintro e w13 ⟨rfl, hb⟩
  have HRp_13 := Lib.hid (HRp_12.out.below hb)
  have HRq_13 := Lib.hid (HRq_12.out.below hb)
  have HRa1_13 := Lib.hid (HRa1_12.out.below hb)
  have HRb1_13 := Lib.hid (HRb1_12.out.below hb)
  have HRa2_13 := Lib.hid (HRa2_12.out.below hb)
  have HRb2_13 := Lib.hid (HRb2_12.out.below hb)
  have HRa3_13 := Lib.hid (HRa3_12.out.below hb)
  have HRd3_13 := Lib.hid (HRd3_12.out.below hb)
  have HRb3_13 := Lib.hid (HRb3_12.out.below hb)
  have HRe3_13 := Lib.hid (HRe3_12.out.below hb)
  have HRa4_13 := Lib.hid (HRa4_12.out.below hb)
  have HRb4_13 := Lib.hid (HRb4_12.out.below hb)
  have HB_13 := Lib.hid (HB_12.out.trans (hb.mono HB_12.out.size))
  clear hb HRp_12 HRq_12 HRa1_12 HRb1_12 HRa2_12 HRb2_12 HRa3_12 HRd3_12 HRb3_12 HRe3_12 HRa4_12 HRb4_12 HB_12
  go_wp2_with fail
  (with_reducible refine (HA5.out.at _ _ _ HRp_13.out).mono ?_)
  rintro e w14 ⟨rfl, hb⟩
  have HRp_14 := Lib.hid (HRp_13.out.below hb)
  have HRq_14 := Lib.hid (HRq_13.out.below hb)
  have HRa1_14 := Lib.hid (HRa1_13.out.below hb)
  have HRb1_14 := Lib.hid (HRb1_13.out.below hb)
  have HRa2_14 := Lib.hid (HRa2_13.out.below hb)
  have HRb2_14 := Lib.hid (HRb2_13.out.below hb)
  have HRa3_14 := Lib.hid (HRa3_13.out.below hb)
  have HRd3_14 := Lib.hid (HRd3_13.out.below hb)
  have HRb3_14 := Lib.hid (HRb3_13.out.below hb)
  have HRe3_14 := Lib.hid (HRe3_13.out.below hb)
  have HRa4_14 := Lib.hid (HRa4_13.out.below hb)
  have HRb4_14 := Lib.hid (HRb4_13.out.below hb)
  have HB_14 := Lib.hid (HB_13.out.trans (hb.mono HB_13.out.size))
  clear hb HRp_13 HRq_13 HRa1_13 HRb1_13 HRa2_13 HRb2_13 HRa3_13 HRd3_13 HRb3_13 HRe3_13 HRa4_13 HRb4_13 HB_13
  go_wp2_with fail
  (with_reducible refine (HB5.out.at _ _ _ HRp_14.out).mono ?_)
  rintro e w15 ⟨rfl, hb⟩
  have HRp_15 := Lib.hid (HRp_14.out.below hb)
  have HRq_15 := Lib.hid (HRq_14.out.below hb)
  have HRa1_15 := Lib.hid (HRa1_14.out.below hb)
  have HRb1_15 := Lib.hid (HRb1_14.out.below hb)
  have HRa2_15 := Lib.hid (HRa2_14.out.below hb)
  have HRb2_15 := Lib.hid (HRb2_14.out.below hb)
  have HRa3_15 := Lib.hid (HRa3_14.out.below hb)
  have HRd3_15 := Lib.hid (HRd3_14.out.below hb)
  have HRb3_15 := Lib.hid (HRb3_14.out.below hb)
  have HRe3_15 := Lib.hid (HRe3_14.out.below hb)
  have HRa4_15 := Lib.hid (HRa4_14.out.below hb)
  have HRb4_15 := Lib.hid (HRb4_14.out.below hb)
  have HB_15 := Lib.hid (HB_14.out.trans (hb.mono HB_14.out.size))
  clear hb HRp_14 HRq_14 HRa1_14 HRb1_14 HRa2_14 HRb2_14 HRa3_14 HRd3_14 HRb3_14 HRe3_14 HRa4_14 HRb4_14 HB_14
  go_wp2_with fail
  (with_reducible refine (HA6.out.at _ _ _ HRp_15.out).mono ?_)
  rintro e w16 ⟨⟨a_a6, c_a6, rfl, hr⟩, hb⟩
  have HRa6_16 := Lib.hid hr
  clear hr
  have HRp_16 := Lib.hid (HRp_15.out.below hb)
  have HRq_16 := Lib.hid (HRq_15.out.below hb)
  have HRa1_16 := Lib.hid (HRa1_15.out.below hb)
  have HRb1_16 := Lib.hid (HRb1_15.out.below hb)
  have HRa2_16 := Lib.hid (HRa2_15.out.below hb)
  have HRb2_16 := Lib.hid (HRb2_15.out.below hb)
  have HRa3_16 := Lib.hid (HRa3_15.out.below hb)
  have HRd3_16 := Lib.hid (HRd3_15.out.below hb)
  have HRb3_16 := Lib.hid (HRb3_15.out.below hb)
  have HRe3_16 := Lib.hid (HRe3_15.out.below hb)
  have HRa4_16 := Lib.hid (HRa4_15.out.below hb)
  have HRb4_16 := Lib.hid (HRb4_15.out.below hb)
  have HB_16 := Lib.hid (HB_15.out.trans (hb.mono HB_15.out.size))
  clear hb HRp_15 HRq_15 HRa1_15 HRb1_15 HRa2_15 HRb2_15 HRa3_15 HRd3_15 HRb3_15 HRe3_15 HRa4_15 HRb4_15 HB_15
  go_wp2_with fail
  (with_reducible refine (HB6.out.at _ _ _ HRp_16.out).mono ?_)
  rintro e w17 ⟨⟨a_b6, c_b6, rfl, hr⟩, hb⟩
  have HRb6_17 := Lib.hid hr
  clear hr
  have HRp_17 := Lib.hid (HRp_16.out.below hb)
  have HRq_17 := Lib.hid (HRq_16.out.below hb)
  have HRa1_17 := Lib.hid (HRa1_16.out.below hb)
  have HRb1_17 := Lib.hid (HRb1_16.out.below hb)
  have HRa2_17 := Lib.hid (HRa2_16.out.below hb)
  have HRb2_17 := Lib.hid (HRb2_16.out.below hb)
  have HRa3_17 := Lib.hid (HRa3_16.out.below hb)
  have HRd3_17 := Lib.hid (HRd3_16.out.below hb)
  have HRb3_17 := Lib.hid (HRb3_16.out.below hb)
  have HRe3_17 := Lib.hid (HRe3_16.out.below hb)
  have HRa4_17 := Lib.hid (HRa4_16.out.below hb)
  have HRb4_17 := Lib.hid (HRb4_16.out.below hb)
  have HRa6_17 := Lib.hid (HRa6_16.out.below hb)
  have HB_17 := Lib.hid (HB_16.out.trans (hb.mono HB_16.out.size))
  clear hb HRp_16 HRq_16 HRa1_16 HRb1_16 HRa2_16 HRb2_16 HRa3_16 HRd3_16 HRb3_16 HRe3_16 HRa4_16 HRb4_16 HRa6_16 HB_16
  go_wp2_with fail
  (with_reducible refine (same_yes a_a6 a_b6 c_a6 c_b6 r6 r6 w17 HRa6_17.out HRb6_17.out rfl).mono ?_)
  rintro e w18 ⟨rfl, hb⟩
  have HRp_18 := Lib.hid (HRp_17.out.below hb)
  have HRq_18 := Lib.hid (HRq_17.out.below hb)
  have HRa1_18 := Lib.hid (HRa1_17.out.below hb)
  have HRb1_18 := Lib.hid (HRb1_17.out.below hb)
  have HRa2_18 := Lib.hid (HRa2_17.out.below hb)
  have HRb2_18 := Lib.hid (HRb2_17.out.below hb)
  have HRa3_18 := Lib.hid (HRa3_17.out.below hb)
  have HRd3_18 := Lib.hid (HRd3_17.out.below hb)
  have HRb3_18 := Lib.hid (HRb3_17.out.below hb)
  have HRe3_18 := Lib.hid (HRe3_17.out.below hb)
  have HRa4_18 := Lib.hid (HRa4_17.out.below hb)
  have HRb4_18 := Lib.hid (HRb4_17.out.below hb)
  have HRa6_18 := Lib.hid (HRa6_17.out.below hb)
  have HRb6_18 := Lib.hid (HRb6_17.out.below hb)
  have HB_18 := Lib.hid (HB_17.out.trans (hb.mono HB_17.out.size))
  clear hb HRp_17 HRq_17 HRa1_17 HRb1_17 HRa2_17 HRb2_17 HRa3_17 HRd3_17 HRb3_17 HRe3_17 HRa4_17 HRb4_17 HRa6_17 HRb6_17 HB_17
  go_wp2_with fail
  (with_reducible refine (eval_any a_p c_p p x w18 HRp_18.out).mono ?_)
  rintro e w19 ⟨rfl, hb⟩
  have HRp_19 := Lib.hid (HRp_18.out.below hb)
  have HRq_19 := Lib.hid (HRq_18.out.below hb)
  have HRa1_19 := Lib.hid (HRa1_18.out.below hb)
  have HRb1_19 := Lib.hid (HRb1_18.out.below hb)
  have HRa2_19 := Lib.hid (HRa2_18.out.below hb)
  have HRb2_19 := Lib.hid (HRb2_18.out.below hb)
  have HRa3_19 := Lib.hid (HRa3_18.out.below hb)
  have HRd3_19 := Lib.hid (HRd3_18.out.below hb)
  have HRb3_19 := Lib.hid (HRb3_18.out.below hb)
  have HRe3_19 := Lib.hid (HRe3_18.out.below hb)
  have HRa4_19 := Lib.hid (HRa4_18.out.below hb)
  have HRb4_19 := Lib.hid (HRb4_18.out.below hb)
  have HRa6_19 := Lib.hid (HRa6_18.out.below hb)
  have HRb6_19 := Lib.hid (HRb6_18.out.below hb)
  have HB_19 := Lib.hid (HB_18.out.trans (hb.mono HB_18.out.size))
  clear hb HRp_18 HRq_18 HRa1_18 HRb1_18 HRa2_18 HRb2_18 HRa3_18 HRd3_18 HRb3_18 HRe3_18 HRa4_18 HRb4_18 HRa6_18 HRb6_18 HB_18
  go_wp2_with fail
  (with_reducible refine (reval_any a_p c_p p x w19 HRp_19.out).mono ?_)
  rintro e w20 ⟨rfl, md, hmd⟩
  have hb : Below w19.heap.size w19 w20 := by rw [hmd]; exact belowN (Below.refl _ _) md
  clear hmd md
  have HRp_20 := Lib.hid (HRp_19.out.below hb)
  have HRq_20 := Lib.hid (HRq_19.out.below hb)
  have HRa1_20 := Lib.hid (HRa1_19.out.below hb)
  have HRb1_20 := Lib.hid (HRb1_19.out.below hb)
  have HRa2_20 := Lib.hid (HRa2_19.out.below hb)
  have HRb2_20 := Lib.hid (HRb2_19.out.below hb)
  have HRa3_20 := Lib.hid (HRa3_19.out.below hb)
  have HRd3_20 := Lib.hid (HRd3_19.out.below hb)
  have HRb3_20 := Lib.hid (HRb3_19.out.below hb)
  have HRe3_20 := Lib.hid (HRe3_19.out.below hb)
  have HRa4_20 := Lib.hid (HRa4_19.out.below hb)
  have HRb4_20 := Lib.hid (HRb4_19.out.below hb)
  have HRa6_20 := Lib.hid (HRa6_19.out.below hb)
  have HRb6_20 := Lib.hid (HRb6_19.out.below hb)
  have HB_20 := Lib.hid (HB_19.out.trans (hb.mono HB_19.out.size))
  clear hb HRp_19 HRq_19 HRa1_19 HRb1_19 HRa2_19 HRb2_19 HRa3_19 HRd3_19 HRb3_19 HRe3_19 HRa4_19 HRb4_19 HRa6_19 HRb6_19 HB_19
  go_wp2_with fail
  (with_reducible refine (HA7.out.at _ _ _ HRp_20.out).mono ?_)
  rintro e w21 ⟨⟨a_a7, c_a7, rfl, hr⟩, hb⟩
  have HRa7_21 := Lib.hid hr
  clear hr
  have HRp_21 := Lib.hid (HRp_20.out.below hb)
  have HRq_21 := Lib.hid (HRq_20.out.below hb)
  have HRa1_21 := Lib.hid (HRa1_20.out.below hb)
  have HRb1_21 := Lib.hid (HRb1_20.out.below hb)
  have HRa2_21 := Lib.hid (HRa2_20.out.below hb)
  have HRb2_21 := Lib.hid (HRb2_20.out.below hb)
  have HRa3_21 := Lib.hid (HRa3_20.out.below hb)
  have HRd3_21 := Lib.hid (HRd3_20.out.below hb)
  have HRb3_21 := Lib.hid (HRb3_20.out.below hb)
  have HRe3_21 := Lib.hid (HRe3_20.out.below hb)
  have HRa4_21 := Lib.hid (HRa4_20.out.below hb)
  have HRb4_21 := Lib.hid (HRb4_20.out.below hb)
  have HRa6_21 := Lib.hid (HRa6_20.out.below hb)
  have HRb6_21 := Lib.hid (HRb6_20.out.below hb)
  have HB_21 := Lib.hid (HB_20.out.trans (hb.mono HB_20.out.size))
  clear hb HRp_20 HRq_20 HRa1_20 HRb1_20 HRa2_20 HRb2_20 HRa3_20 HRd3_20 HRb3_20 HRe3_20 HRa4_20 HRb4_20 HRa6_20 HRb6_20 HB_20
  go_wp2_with fail
  (with_reducible refine (HB7.out.at _ _ _ HRp_21.out).mono ?_)
  rintro e w22 ⟨⟨a_b7, c_b7, rfl, hr⟩, hb⟩
  have HRb7_22 := Lib.hid hr
  clear hr
  have HRp_22 := Lib.hid (HRp_21.out.below hb)
  have HRq_22 := Lib.hid (HRq_21.out.below hb)
  have HRa1_22 := Lib.hid (HRa1_21.out.below hb)
  have HRb1_22 := Lib.hid (HRb1_21.out.below hb)
  have HRa2_22 := Lib.hid (HRa2_21.out.below hb)
  have HRb2_22 := Lib.hid (HRb2_21.out.below hb)
  have HRa3_22 := Lib.hid (HRa3_21.out.below hb)
  have HRd3_22 := Lib.hid (HRd3_21.out.below hb)
  have HRb3_22 := Lib.hid (HRb3_21.out.below hb)
  have HRe3_22 := Lib.hid (HRe3_21.out.below hb)
  have HRa4_22 := Lib.hid (HRa4_21.out.below hb)
  have HRb4_22 := Lib.hid (HRb4_21.out.below hb)
  have HRa6_22 := Lib.hid (HRa6_21.out.below hb)
  have HRb6_22 := Lib.hid (HRb6_21.out.below hb)
  have HRa7_22 := Lib.hid (HRa7_21.out.below hb)
  have HB_22 := Lib.hid (HB_21.out.trans (hb.mono HB_21.out.size))
  clear hb HRp_21 HRq_21 HRa1_21 HRb1_21 HRa2_21 HRb2_21 HRa3_21 HRd3_21 HRb3_21 HRe3_21 HRa4_21 HRb4_21 HRa6_21 HRb6_21 HRa7_21 HB_21
  go_wp2_with fail
  (with_reducible refine (same_yes a_a7 a_b7 c_a7 c_b7 r7 r7 w22 HRa7_22.out HRb7_22.out rfl).mono ?_)
  rintro e w23 ⟨rfl, hb⟩
  have HRp_23 := Lib.hid (HRp_22.out.below hb)
  have HRq_23 := Lib.hid (HRq_22.out.below hb)
  have HRa1_23 := Lib.hid (HRa1_22.out.below hb)
  have HRb1_23 := Lib.hid (HRb1_22.out.below hb)
  have HRa2_23 := Lib.hid (HRa2_22.out.below hb)
  have HRb2_23 := Lib.hid (HRb2_22.out.below hb)
  have HRa3_23 := Lib.hid (HRa3_22.out.below hb)
  have HRd3_23 := Lib.hid (HRd3_22.out.below hb)
  have HRb3_23 := Lib.hid (HRb3_22.out.below hb)
  have HRe3_23 := Lib.hid (HRe3_22.out.below hb)
  have HRa4_23 := Lib.hid (HRa4_22.out.below hb)
  have HRb4_23 := Lib.hid (HRb4_22.out.below hb)
  have HRa6_23 := Lib.hid (HRa6_22.out.below hb)
  have HRb6_23 := Lib.hid (HRb6_22.out.below hb)
  have HRa7_23 := Lib.hid (HRa7_22.out.below hb)
  have HRb7_23 := Lib.hid (HRb7_22.out.below hb)
  have HB_23 := Lib.hid (HB_22.out.trans (hb.mono HB_22.out.size))
  clear hb HRp_22 HRq_22 HRa1_22 HRb1_22 HRa2_22 HRb2_22 HRa3_22 HRd3_22 HRb3_22 HRe3_22 HRa4_22 HRb4_22 HRa6_22 HRb6_22 HRa7_22 HRb7_22 HB_22
  go_wp2_with fail
  (with_reducible refine (HA8.out.at _ _ _ HRp_23.out).mono ?_)
  rintro e w24 ⟨⟨a_a8, c_a8, rfl, hr⟩, hb⟩
  have HRa8_24 := Lib.hid hr
  clear hr
  have HRp_24 := Lib.hid (HRp_23.out.below hb)
  have HRq_24 := Lib.hid (HRq_23.out.below hb)
  have HRa1_24 := Lib.hid (HRa1_23.out.below hb)
  have HRb1_24 := Lib.hid (HRb1_23.out.below hb)
  have HRa2_24 := Lib.hid (HRa2_23.out.below hb)
  have HRb2_24 := Lib.hid (HRb2_23.out.below hb)
  have HRa3_24 := Lib.hid (HRa3_23.out.below hb)
  have HRd3_24 := Lib.hid (HRd3_23.out.below hb)
  have HRb3_24 := Lib.hid (HRb3_23.out.below hb)
  have HRe3_24 := Lib.hid (HRe3_23.out.below hb)
  have HRa4_24 := Lib.hid (HRa4_23.out.below hb)
  have HRb4_24 := Lib.hid (HRb4_23.out.below hb)
  have HRa6_24 := Lib.hid (HRa6_23.out.below hb)
  have HRb6_24 := Lib.hid (HRb6_23.out.below hb)
  have HRa7_24 := Lib.hid (HRa7_23.out.below hb)
  have HRb7_24 := Lib.hid (HRb7_23.out.below hb)
  have HB_24 := Lib.hid (HB_23.out.trans (hb.mono HB_23.out.size))
  clear hb HRp_23 HRq_23 HRa1_23 HRb1_23 HRa2_23 HRb2_23 HRa3_23 HRd3_23 HRb3_23 HRe3_23 HRa4_23 HRb4_23 HRa6_23 HRb6_23 HRa7_23 HRb7_23 HB_23
  go_wp2_with fail
  (with_reducible refine (HB8.out.at _ _ _ HRp_24.out).mono ?_)
  rintro e w25 ⟨⟨a_b8, c_b8, rfl, hr⟩, hb⟩
  have HRb8_25 := Lib.hid hr
  clear hr
  have HRp_25 := Lib.hid (HRp_24.out.below hb)
  have HRq_25 := Lib.hid (HRq_24.out.below hb)
  have HRa1_25 := Lib.hid (HRa1_24.out.below hb)
  have HRb1_25 := Lib.hid (HRb1_24.out.below hb)
  have HRa2_25 := Lib.hid (HRa2_24.out.below hb)
  have HRb2_25 := Lib.hid (HRb2_24.out.below hb)
  have HRa3_25 := Lib.hid (HRa3_24.out.below hb)
  have HRd3_25 := Lib.hid (HRd3_24.out.below hb)
  have HRb3_25 := Lib.hid (HRb3_24.out.below hb)
  have HRe3_25 := Lib.hid (HRe3_24.out.below hb)
  have HRa4_25 := Lib.hid (HRa4_24.out.below hb)
  have HRb4_25 := Lib.hid (HRb4_24.out.below hb)
  have HRa6_25 := Lib.hid (HRa6_24.out.below hb)
  have HRb6_25 := Lib.hid (HRb6_24.out.below hb)
  have HRa7_25 := Lib.hid (HRa7_24.out.below hb)
  have HRb7_25 := Lib.hid (HRb7_24.out.below hb)
  have HRa8_25 := Lib.hid (HRa8_24.out.below hb)
  have HB_25 := Lib.hid (HB_24.out.trans (hb.mono HB_24.out.size))
  clear hb HRp_24 HRq_24 HRa1_24 HRb1_24 HRa2_24 HRb2_24 HRa3_24 HRd3_24 HRb3_24 HRe3_24 HRa4_24 HRb4_24 HRa6_24 HRb6_24 HRa7_24 HRb7_24 HRa8_24 HB_24
  go_wp2_with fail
  (with_reducible refine (same_yes a_a8 a_b8 c_a8 c_b8 r8 r8 w25 HRa8_25.out HRb8_25.out rfl).mono ?_)
  rintro e w26 ⟨rfl, hb⟩
  have HRp_26 := Lib.hid (HRp_25.out.below hb)
  have HRq_26 := Lib.hid (HRq_25.out.below hb)
  have HRa1_26 := Lib.hid (HRa1_25.out.below hb)
  have HRb1_26 := Lib.hid (HRb1_25.out.below hb)
  have HRa2_26 := Lib.hid (HRa2_25.out.below hb)
  have HRb2_26 := Lib.hid (HRb2_25.out.below hb)
  have HRa3_26 := Lib.hid (HRa3_25.out.below hb)
  have HRd3_26 := Lib.hid (HRd3_25.out.below hb)
  have HRb3_26 := Lib.hid (HRb3_25.out.below hb)
  have HRe3_26 := Lib.hid (HRe3_25.out.below hb)
  have HRa4_26 := Lib.hid (HRa4_25.out.below hb)
  have HRb4_26 := Lib.hid (HRb4_25.out.below hb)
  have HRa6_26 := Lib.hid (HRa6_25.out.below hb)
  have HRb6_26 := Lib.hid (HRb6_25.out.below hb)
  have HRa7_26 := Lib.hid (HRa7_25.out.below hb)
  have HRb7_26 := Lib.hid (HRb7_25.out.below hb)
  have HRa8_26 := Lib.hid (HRa8_25.out.below hb)
  have HRb8_26 := Lib.hid (HRb8_25.out.below hb)
  have HB_26 := Lib.hid (HB_25.out.trans (hb.mono HB_25.out.size))
  clear hb HRp_25 HRq_25 HRa1_25 HRb1_25 HRa2_25 HRb2_25 HRa3_25 HRd3_25 HRb3_25 HRe3_25 HRa4_25 HRb4_25 HRa6_25 HRb6_25 HRa7_25 HRb7_25 HRa8_25 HRb8_25 HB_25
  go_wp2
  go_ret
  exact ⟨rfl, HB_26.out⟩

set_option maxRecDepth 100000 in
set_option maxHeartbeats 4000000 in
theorem polyRaw_any (a_p : Option Addr) (c_p : Nat) (p : List PM.G) (a_q : Option Addr) (c_q : Nat) (q : List PM.G) (x : PM.G) (w : World) (hp : Row w a_p p c_p) (hq : Row w a_q q c_q) :
    Calls Try.prog 3 #[.slice a_p p.length c_p, .slice a_q q.length c_q, .int .u8 (x.v : Int)] w fun e W => e = .returned (.bool true) ∧ Below w.heap.size w W := by
  have m1 := hp.room
  have m2 := hp.most
  have m3 := hq.room
  have m4 := hq.most
  have HP := Lib.hid hp
  have HQ := Lib.hid hq
  clear hp hq
  by_cases h1 : p.length ≤ 300
  · by_cases h2 : q.length ≤ 300
    · have t1 : decide ((300 : Int) < (p.length : Int)) = false := decide_eq_false (by omega)
      have t2 : decide ((300 : Int) < (q.length : Int)) = false := decide_eq_false (by omega)
      go_enter Try.func3, Try.ntmps3
      go_wp2_with fail
      (with_reducible refine (awake_yes w).mono ?_)
      rintro e w1 ⟨rfl, hb⟩
      have HP1 := Lib.hid (HP.out.below hb)
      have HQ1 := Lib.hid (HQ.out.below hb)
      have HB1 := Lib.hid hb
      clear hb
      go_wp2_with fail
      (with_reducible refine (agree_any a_p a_q c_p c_q p q x w1 h1 HP1.out HQ1.out).mono ?_)
      rintro e w2 ⟨rfl, hb⟩
      go_wp2_with fail
      go_ret
      exact ⟨rfl, HB1.out.trans (hb.mono HB1.out.size)⟩
    · have t1 : decide ((300 : Int) < (p.length : Int)) = false := decide_eq_false (by omega)
      have t2 : decide ((300 : Int) < (q.length : Int)) = true := decide_eq_true (by omega)
      go_enter Try.func3, Try.ntmps3
      go_wp2_with fail
      (with_reducible refine (awake_yes w).mono ?_)
      rintro e w1 ⟨rfl, hb⟩
      go_wp2_with fail
      go_ret
      exact ⟨rfl, hb⟩
  · have t1 : decide ((300 : Int) < (p.length : Int)) = true := decide_eq_true (by omega)
    go_enter Try.func3, Try.ntmps3
    go_wp2_with fail
    (with_reducible refine (awake_yes w).mono ?_)
    rintro e w1 ⟨rfl, hb⟩
    go_wp2_with fail
    go_ret
    exact ⟨rfl, hb⟩
end Go.Proofs.Ytfbogjibofeckaa.P
