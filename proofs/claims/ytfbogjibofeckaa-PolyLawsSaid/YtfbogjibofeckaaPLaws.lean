/- The statement PolyLaws: the walk. -/
import Derived.Test.YtfbogjibofeckaaPAwake
namespace Go.Proofs.Ytfbogjibofeckaa.P
open Go Go.RowKit Go.Shelf

theorem ev_add {p q s : List PM.G} (h : ∀ k, PM.el s k = PM.addC (PM.el p) (PM.el q) k) (x : PM.G) : PM.ev s x = PM.ev p x + PM.ev q x := by
  have e : PM.el s = PM.addC (PM.el p) (PM.el q) := funext h
  rw [← PM.ev_any s x (n := s.length + p.length + q.length) (by omega), e, PM.evn_addC, PM.ev_any p x (by omega), PM.ev_any q x (by omega)]
theorem ev_xor {p q s : List PM.G} (h : ∀ k, PM.el s k = PM.addC (PM.el p) (PM.el q) k) (x : PM.G) : bits BinOp.xor IntKind.u8 ((PM.ev p x).v : Int) ((PM.ev q x).v : Int) = ((PM.ev s x).v : Int) := by
  rw [xor_G, ← ev_add h x]
theorem laws_distr {p q r s a b c u : List PM.G} (ha : PM.Can a) (hu : PM.Can u) (h1 : ∀ k, PM.el s k = PM.addC (PM.el p) (PM.el q) k) (h2 : ∀ k, PM.el a k = PM.conv (PM.el s) (PM.el r) k) (h3 : ∀ k, PM.el b k = PM.conv (PM.el p) (PM.el r) k)
    (h4 : ∀ k, PM.el c k = PM.conv (PM.el q) (PM.el r) k) (h5 : ∀ k, PM.el u k = PM.addC (PM.el b) (PM.el c) k) : a = u := by
  refine PM.can_ext ha hu (fun k => ?_)
  rw [h2, h5, show PM.el s = PM.addC (PM.el p) (PM.el q) from funext h1, PM.conv_add_l]
  show _ = PM.el b k + PM.el c k
  rw [h3, h4]
theorem laws_der {p r b db dp dr v w y : List PM.G} (hd : PM.Can db) (hy : PM.Can y) (h1 : ∀ k, PM.el b k = PM.conv (PM.el p) (PM.el r) k) (h2 : ∀ k, PM.el db k = PM.der (PM.el b) k) (h3 : ∀ k, PM.el dp k = PM.der (PM.el p) k)
    (h4 : ∀ k, PM.el dr k = PM.der (PM.el r) k) (h5 : ∀ k, PM.el v k = PM.conv (PM.el dp) (PM.el r) k) (h6 : ∀ k, PM.el w k = PM.conv (PM.el p) (PM.el dr) k) (h7 : ∀ k, PM.el y k = PM.addC (PM.el v) (PM.el w) k) : db = y := by
  refine PM.can_ext hd hy (fun k => ?_)
  rw [h2, h7, show PM.el b = PM.conv (PM.el p) (PM.el r) from funext h1, PM.der_conv]
  show _ = PM.el v k + PM.el w k
  rw [h5, h6, show PM.el dp = PM.der (PM.el p) from funext h3, show PM.el dr = PM.der (PM.el r) from funext h4]

set_option maxRecDepth 100000 in
set_option maxHeartbeats 4000000 in
theorem polyLaws_any (a : Option Addr) (cap : Nat) (ts : List Int) (x : PM.G) (w : World) (hA : IRow w a ts cap) :
    Calls Try.prog 8 #[.slice a ts.length cap, .int .u8 (x.v : Int)] w fun e W => e = .returned (.bool true) ∧ Below w.heap.size w W := by
  have HA := Lib.hid hA
  clear hA
  by_cases hL : ts.length ≤ 400
  · have hLt : decide ((ts.length : Int) ≤ 400) = true := decide_eq_true (by omega)
    go_enter Try.func8, Try.ntmps8
    go_wp2_with fail
    (with_reducible refine (light_any a ts.length cap w).mono ?_)
    rintro e w' ⟨rfl, rfl⟩
    rw [hLt]
    go_wp2_with fail
    (with_reducible refine (roll_any a cap ts w' HA.out hL).mono ?_)
    rintro e w0 ⟨rfl, hd, hb⟩
    obtain ⟨dp, hdpe⟩ : ∃ dp, w'.heap.size = dp := ⟨_, rfl⟩
    rw [hdpe] at hd
    have hdp0 : w'.heap.size ≤ dp := by omega
    have HD_0 := Lib.hid hd
    have HB_0 := Lib.hid hb
    clear hd hb
    rw [hdpe]
    clear hdpe
    go_wp2_with fail
    refine (poly_any w0 dp a cap ts _ 12 (by omega) HD_0.out).mono ?_
    rintro e w1 ⟨p, a_p, c_p, kp, rfl, hlp, hc, hr, hf, hd, hg⟩
    have HRp_1 := Lib.hid hr
    have HPp := Lib.hid (show Pol p from ⟨hc, by omega⟩)
    have HNp := Lib.hid (show ∀ b o, a_p = some ⟨b, o, none⟩ → b ≠ dp from fun b o e => by have := hf b o e; have := HD_0.out.lt; omega)
    have HD_1 := Lib.hid hd
    have HB_1 := Lib.hid (below_grown HB_0.out hg HB_0.out.size (fun k e => by cases e; exact hdp0))
    clear HB_0
    clear hr hc hf hd hg HD_0
    go_wp2_with fail
    refine (poly_any w1 dp a cap ts _ 12 (by omega) HD_1.out).mono ?_
    rintro e w2 ⟨q, a_q, c_q, kq, rfl, hlq, hc, hr, hf, hd, hg⟩
    have HRq_2 := Lib.hid hr
    have HPq := Lib.hid (show Pol q from ⟨hc, by omega⟩)
    have HNq := Lib.hid (show ∀ b o, a_q = some ⟨b, o, none⟩ → b ≠ dp from fun b o e => by have := hf b o e; have := HD_1.out.lt; omega)
    have HD_2 := Lib.hid hd
    have HRp_2 := Lib.hid (HRp_1.out.grown hg (fun b o e h => HNp.out b o e (Option.some.inj h)))
    have HB_2 := Lib.hid (below_grown HB_1.out hg HB_1.out.size (fun k e => by cases e; exact hdp0))
    clear HRp_1 HB_1
    clear hr hc hf hd hg HD_1
    go_wp2_with fail
    refine (poly_any w2 dp a cap ts _ 12 (by omega) HD_2.out).mono ?_
    rintro e w3 ⟨r, a_r, c_r, kr, rfl, hlr, hc, hr, hf, hd, hg⟩
    have HRr_3 := Lib.hid hr
    have HPr := Lib.hid (show Pol r from ⟨hc, by omega⟩)
    have HNr := Lib.hid (show ∀ b o, a_r = some ⟨b, o, none⟩ → b ≠ dp from fun b o e => by have := hf b o e; have := HD_2.out.lt; omega)
    have HD_3 := Lib.hid hd
    have HRp_3 := Lib.hid (HRp_2.out.grown hg (fun b o e h => HNp.out b o e (Option.some.inj h)))
    have HRq_3 := Lib.hid (HRq_2.out.grown hg (fun b o e h => HNq.out b o e (Option.some.inj h)))
    have HB_3 := Lib.hid (below_grown HB_2.out hg HB_2.out.size (fun k e => by cases e; exact hdp0))
    clear HRp_2 HRq_2 HB_2
    clear hr hc hf hd hg HD_2
    go_wp2_with fail
    (with_reducible refine (add_yes a_p a_q c_p c_q p q w3 HRp_3.out HRq_3.out HPp.out HPq.out).mono ?_)
    rintro e w4 ⟨⟨s, a_s, c_s, rfl, hr, hp, hc⟩, hb⟩
    have hls : s.length ≤ max p.length q.length := PM.can_len hp.can (fun k hk => by rw [hc]; exact PM.Van.addC ((PM.el_van p).mono (Nat.le_max_left _ _)) ((PM.el_van q).mono (Nat.le_max_right _ _)) k hk)
    have HRs_4 := Lib.hid hr
    have HPs := Lib.hid hp
    have HCs := Lib.hid hc
    have HRp_4 := Lib.hid (HRp_3.out.below hb)
    have HRq_4 := Lib.hid (HRq_3.out.below hb)
    have HRr_4 := Lib.hid (HRr_3.out.below hb)
    have HB_4 := Lib.hid (HB_3.out.trans (hb.mono HB_3.out.size))
    have HD_4 := Lib.hid (HD_3.out.below hb)
    clear HRp_3 HRq_3 HRr_3 HB_3 HD_3
    clear hr hp hc hb
    go_wp2_with fail
    (with_reducible refine (mul_yes a_s a_r c_s c_r s r w4 HRs_4.out HRr_4.out HPs.out HPr.out (by omega)).mono ?_)
    rintro e w5 ⟨⟨A, a_A, c_A, rfl, hr, hp, hc⟩, hb⟩
    have hlA : A.length ≤ s.length + r.length := PM.can_len hp.can (fun k hk => by rw [hc]; exact PM.conv_van _ _ _ _ (PM.el_van s) ((PM.el_van r).mono (Nat.le_succ _)) k hk)
    have HRA_5 := Lib.hid hr
    have HPA := Lib.hid hp
    have HCA := Lib.hid hc
    have HRp_5 := Lib.hid (HRp_4.out.below hb)
    have HRq_5 := Lib.hid (HRq_4.out.below hb)
    have HRr_5 := Lib.hid (HRr_4.out.below hb)
    have HRs_5 := Lib.hid (HRs_4.out.below hb)
    have HB_5 := Lib.hid (HB_4.out.trans (hb.mono HB_4.out.size))
    have HD_5 := Lib.hid (HD_4.out.below hb)
    clear HRp_4 HRq_4 HRr_4 HRs_4 HB_4 HD_4
    clear hr hp hc hb
    go_wp2_with fail
    (with_reducible refine (mul_yes a_p a_r c_p c_r p r w5 HRp_5.out HRr_5.out HPp.out HPr.out (by omega)).mono ?_)
    rintro e w6 ⟨⟨b, a_b, c_b, rfl, hr, hp, hc⟩, hb⟩
    have hlb : b.length ≤ p.length + r.length := PM.can_len hp.can (fun k hk => by rw [hc]; exact PM.conv_van _ _ _ _ (PM.el_van p) ((PM.el_van r).mono (Nat.le_succ _)) k hk)
    have HRb_6 := Lib.hid hr
    have HPb := Lib.hid hp
    have HCb := Lib.hid hc
    have HRp_6 := Lib.hid (HRp_5.out.below hb)
    have HRq_6 := Lib.hid (HRq_5.out.below hb)
    have HRr_6 := Lib.hid (HRr_5.out.below hb)
    have HRs_6 := Lib.hid (HRs_5.out.below hb)
    have HRA_6 := Lib.hid (HRA_5.out.below hb)
    have HB_6 := Lib.hid (HB_5.out.trans (hb.mono HB_5.out.size))
    have HD_6 := Lib.hid (HD_5.out.below hb)
    clear HRp_5 HRq_5 HRr_5 HRs_5 HRA_5 HB_5 HD_5
    clear hr hp hc hb
    go_wp2_with fail
    (with_reducible refine (mul_yes a_q a_r c_q c_r q r w6 HRq_6.out HRr_6.out HPq.out HPr.out (by omega)).mono ?_)
    rintro e w7 ⟨⟨c, a_c, c_c, rfl, hr, hp, hc⟩, hb⟩
    have hlc : c.length ≤ q.length + r.length := PM.can_len hp.can (fun k hk => by rw [hc]; exact PM.conv_van _ _ _ _ (PM.el_van q) ((PM.el_van r).mono (Nat.le_succ _)) k hk)
    have HRc_7 := Lib.hid hr
    have HPc := Lib.hid hp
    have HCc := Lib.hid hc
    have HRp_7 := Lib.hid (HRp_6.out.below hb)
    have HRq_7 := Lib.hid (HRq_6.out.below hb)
    have HRr_7 := Lib.hid (HRr_6.out.below hb)
    have HRs_7 := Lib.hid (HRs_6.out.below hb)
    have HRA_7 := Lib.hid (HRA_6.out.below hb)
    have HRb_7 := Lib.hid (HRb_6.out.below hb)
    have HB_7 := Lib.hid (HB_6.out.trans (hb.mono HB_6.out.size))
    have HD_7 := Lib.hid (HD_6.out.below hb)
    clear HRp_6 HRq_6 HRr_6 HRs_6 HRA_6 HRb_6 HB_6 HD_6
    clear hr hp hc hb
    go_wp2_with fail
    (with_reducible refine (add_yes a_b a_c c_b c_c b c w7 HRb_7.out HRc_7.out HPb.out HPc.out).mono ?_)
    rintro e w8 ⟨⟨u, a_u, c_u, rfl, hr, hp, hc⟩, hb⟩
    have hlu : u.length ≤ max b.length c.length := PM.can_len hp.can (fun k hk => by rw [hc]; exact PM.Van.addC ((PM.el_van b).mono (Nat.le_max_left _ _)) ((PM.el_van c).mono (Nat.le_max_right _ _)) k hk)
    have HRu_8 := Lib.hid hr
    have HPu := Lib.hid hp
    have HCu := Lib.hid hc
    have HRp_8 := Lib.hid (HRp_7.out.below hb)
    have HRq_8 := Lib.hid (HRq_7.out.below hb)
    have HRr_8 := Lib.hid (HRr_7.out.below hb)
    have HRs_8 := Lib.hid (HRs_7.out.below hb)
    have HRA_8 := Lib.hid (HRA_7.out.below hb)
    have HRb_8 := Lib.hid (HRb_7.out.below hb)
    have HRc_8 := Lib.hid (HRc_7.out.below hb)
    have HB_8 := Lib.hid (HB_7.out.trans (hb.mono HB_7.out.size))
    have HD_8 := Lib.hid (HD_7.out.below hb)
    clear HRp_7 HRq_7 HRr_7 HRs_7 HRA_7 HRb_7 HRc_7 HB_7 HD_7
    clear hr hp hc hb
    go_wp2_with fail
    (with_reducible refine (derive_any a_p c_p p w8 HRp_8.out HPp.out.len).mono ?_)
    rintro e w9 ⟨⟨dP, a_dP, c_dP, rfl, hr, hp, hc⟩, hb⟩
    have hldP : dP.length ≤ p.length := PM.can_len hp.can (fun k hk => by rw [hc]; exact PM.Van.der ((PM.el_van p).mono (Nat.le_succ _)) k hk)
    have HRdP_9 := Lib.hid hr
    have HPdP := Lib.hid hp
    have HCdP := Lib.hid hc
    have HRp_9 := Lib.hid (HRp_8.out.below hb)
    have HRq_9 := Lib.hid (HRq_8.out.below hb)
    have HRr_9 := Lib.hid (HRr_8.out.below hb)
    have HRs_9 := Lib.hid (HRs_8.out.below hb)
    have HRA_9 := Lib.hid (HRA_8.out.below hb)
    have HRb_9 := Lib.hid (HRb_8.out.below hb)
    have HRc_9 := Lib.hid (HRc_8.out.below hb)
    have HRu_9 := Lib.hid (HRu_8.out.below hb)
    have HB_9 := Lib.hid (HB_8.out.trans (hb.mono HB_8.out.size))
    have HD_9 := Lib.hid (HD_8.out.below hb)
    clear HRp_8 HRq_8 HRr_8 HRs_8 HRA_8 HRb_8 HRc_8 HRu_8 HB_8 HD_8
    clear hr hp hc hb
    go_wp2_with fail
    (with_reducible refine (mul_yes a_dP a_r c_dP c_r dP r w9 HRdP_9.out HRr_9.out HPdP.out HPr.out (by omega)).mono ?_)
    rintro e w10 ⟨⟨v, a_v, c_v, rfl, hr, hp, hc⟩, hb⟩
    have hlv : v.length ≤ dP.length + r.length := PM.can_len hp.can (fun k hk => by rw [hc]; exact PM.conv_van _ _ _ _ (PM.el_van dP) ((PM.el_van r).mono (Nat.le_succ _)) k hk)
    have HRv_10 := Lib.hid hr
    have HPv := Lib.hid hp
    have HCv := Lib.hid hc
    have HRp_10 := Lib.hid (HRp_9.out.below hb)
    have HRq_10 := Lib.hid (HRq_9.out.below hb)
    have HRr_10 := Lib.hid (HRr_9.out.below hb)
    have HRs_10 := Lib.hid (HRs_9.out.below hb)
    have HRA_10 := Lib.hid (HRA_9.out.below hb)
    have HRb_10 := Lib.hid (HRb_9.out.below hb)
    have HRc_10 := Lib.hid (HRc_9.out.below hb)
    have HRu_10 := Lib.hid (HRu_9.out.below hb)
    have HRdP_10 := Lib.hid (HRdP_9.out.below hb)
    have HB_10 := Lib.hid (HB_9.out.trans (hb.mono HB_9.out.size))
    have HD_10 := Lib.hid (HD_9.out.below hb)
    clear HRp_9 HRq_9 HRr_9 HRs_9 HRA_9 HRb_9 HRc_9 HRu_9 HRdP_9 HB_9 HD_9
    clear hr hp hc hb
    go_wp2_with fail
    (with_reducible refine (derive_any a_r c_r r w10 HRr_10.out HPr.out.len).mono ?_)
    rintro e w11 ⟨⟨dR, a_dR, c_dR, rfl, hr, hp, hc⟩, hb⟩
    have hldR : dR.length ≤ r.length := PM.can_len hp.can (fun k hk => by rw [hc]; exact PM.Van.der ((PM.el_van r).mono (Nat.le_succ _)) k hk)
    have HRdR_11 := Lib.hid hr
    have HPdR := Lib.hid hp
    have HCdR := Lib.hid hc
    have HRp_11 := Lib.hid (HRp_10.out.below hb)
    have HRq_11 := Lib.hid (HRq_10.out.below hb)
    have HRr_11 := Lib.hid (HRr_10.out.below hb)
    have HRs_11 := Lib.hid (HRs_10.out.below hb)
    have HRA_11 := Lib.hid (HRA_10.out.below hb)
    have HRb_11 := Lib.hid (HRb_10.out.below hb)
    have HRc_11 := Lib.hid (HRc_10.out.below hb)
    have HRu_11 := Lib.hid (HRu_10.out.below hb)
    have HRdP_11 := Lib.hid (HRdP_10.out.below hb)
    have HRv_11 := Lib.hid (HRv_10.out.below hb)
    have HB_11 := Lib.hid (HB_10.out.trans (hb.mono HB_10.out.size))
    have HD_11 := Lib.hid (HD_10.out.below hb)
    clear HRp_10 HRq_10 HRr_10 HRs_10 HRA_10 HRb_10 HRc_10 HRu_10 HRdP_10 HRv_10 HB_10 HD_10
    clear hr hp hc hb
    go_wp2_with fail
    (with_reducible refine (mul_yes a_p a_dR c_p c_dR p dR w11 HRp_11.out HRdR_11.out HPp.out HPdR.out (by omega)).mono ?_)
    rintro e w12 ⟨⟨z, a_z, c_z, rfl, hr, hp, hc⟩, hb⟩
    have hlz : z.length ≤ p.length + dR.length := PM.can_len hp.can (fun k hk => by rw [hc]; exact PM.conv_van _ _ _ _ (PM.el_van p) ((PM.el_van dR).mono (Nat.le_succ _)) k hk)
    have HRz_12 := Lib.hid hr
    have HPz := Lib.hid hp
    have HCz := Lib.hid hc
    have HRp_12 := Lib.hid (HRp_11.out.below hb)
    have HRq_12 := Lib.hid (HRq_11.out.below hb)
    have HRr_12 := Lib.hid (HRr_11.out.below hb)
    have HRs_12 := Lib.hid (HRs_11.out.below hb)
    have HRA_12 := Lib.hid (HRA_11.out.below hb)
    have HRb_12 := Lib.hid (HRb_11.out.below hb)
    have HRc_12 := Lib.hid (HRc_11.out.below hb)
    have HRu_12 := Lib.hid (HRu_11.out.below hb)
    have HRdP_12 := Lib.hid (HRdP_11.out.below hb)
    have HRv_12 := Lib.hid (HRv_11.out.below hb)
    have HRdR_12 := Lib.hid (HRdR_11.out.below hb)
    have HB_12 := Lib.hid (HB_11.out.trans (hb.mono HB_11.out.size))
    have HD_12 := Lib.hid (HD_11.out.below hb)
    clear HRp_11 HRq_11 HRr_11 HRs_11 HRA_11 HRb_11 HRc_11 HRu_11 HRdP_11 HRv_11 HRdR_11 HB_11 HD_11
    clear hr hp hc hb
    go_wp2_with fail
    (with_reducible refine (add_yes a_v a_z c_v c_z v z w12 HRv_12.out HRz_12.out HPv.out HPz.out).mono ?_)
    rintro e w13 ⟨⟨y, a_y, c_y, rfl, hr, hp, hc⟩, hb⟩
    have hly : y.length ≤ max v.length z.length := PM.can_len hp.can (fun k hk => by rw [hc]; exact PM.Van.addC ((PM.el_van v).mono (Nat.le_max_left _ _)) ((PM.el_van z).mono (Nat.le_max_right _ _)) k hk)
    have HRy_13 := Lib.hid hr
    have HPy := Lib.hid hp
    have HCy := Lib.hid hc
    have HRp_13 := Lib.hid (HRp_12.out.below hb)
    have HRq_13 := Lib.hid (HRq_12.out.below hb)
    have HRr_13 := Lib.hid (HRr_12.out.below hb)
    have HRs_13 := Lib.hid (HRs_12.out.below hb)
    have HRA_13 := Lib.hid (HRA_12.out.below hb)
    have HRb_13 := Lib.hid (HRb_12.out.below hb)
    have HRc_13 := Lib.hid (HRc_12.out.below hb)
    have HRu_13 := Lib.hid (HRu_12.out.below hb)
    have HRdP_13 := Lib.hid (HRdP_12.out.below hb)
    have HRv_13 := Lib.hid (HRv_12.out.below hb)
    have HRdR_13 := Lib.hid (HRdR_12.out.below hb)
    have HRz_13 := Lib.hid (HRz_12.out.below hb)
    have HB_13 := Lib.hid (HB_12.out.trans (hb.mono HB_12.out.size))
    have HD_13 := Lib.hid (HD_12.out.below hb)
    clear HRp_12 HRq_12 HRr_12 HRs_12 HRA_12 HRb_12 HRc_12 HRu_12 HRdP_12 HRv_12 HRdR_12 HRz_12 HB_12 HD_12
    clear hr hp hc hb
    go_wp2_with fail
    (with_reducible refine (awake_yes w13).mono ?_)
    rintro e w14 ⟨rfl, hb⟩
    have HRp_14 := Lib.hid (HRp_13.out.below hb)
    have HRq_14 := Lib.hid (HRq_13.out.below hb)
    have HRr_14 := Lib.hid (HRr_13.out.below hb)
    have HRs_14 := Lib.hid (HRs_13.out.below hb)
    have HRA_14 := Lib.hid (HRA_13.out.below hb)
    have HRb_14 := Lib.hid (HRb_13.out.below hb)
    have HRc_14 := Lib.hid (HRc_13.out.below hb)
    have HRu_14 := Lib.hid (HRu_13.out.below hb)
    have HRdP_14 := Lib.hid (HRdP_13.out.below hb)
    have HRv_14 := Lib.hid (HRv_13.out.below hb)
    have HRdR_14 := Lib.hid (HRdR_13.out.below hb)
    have HRz_14 := Lib.hid (HRz_13.out.below hb)
    have HRy_14 := Lib.hid (HRy_13.out.below hb)
    have HB_14 := Lib.hid (HB_13.out.trans (hb.mono HB_13.out.size))
    have HD_14 := Lib.hid (HD_13.out.below hb)
    clear HRp_13 HRq_13 HRr_13 HRs_13 HRA_13 HRb_13 HRc_13 HRu_13 HRdP_13 HRv_13 HRdR_13 HRz_13 HRy_13 HB_13 HD_13
    clear hb
    go_wp2_with fail
    (with_reducible refine (same_yes a_A a_u c_A c_u A u w14 HRA_14.out HRu_14.out (laws_distr HPA.out.can HPu.out.can HCs.out HCA.out HCb.out HCc.out HCu.out)).mono ?_)
    rintro e w15 ⟨rfl, hb⟩
    have HRp_15 := Lib.hid (HRp_14.out.below hb)
    have HRq_15 := Lib.hid (HRq_14.out.below hb)
    have HRr_15 := Lib.hid (HRr_14.out.below hb)
    have HRs_15 := Lib.hid (HRs_14.out.below hb)
    have HRA_15 := Lib.hid (HRA_14.out.below hb)
    have HRb_15 := Lib.hid (HRb_14.out.below hb)
    have HRc_15 := Lib.hid (HRc_14.out.below hb)
    have HRu_15 := Lib.hid (HRu_14.out.below hb)
    have HRdP_15 := Lib.hid (HRdP_14.out.below hb)
    have HRv_15 := Lib.hid (HRv_14.out.below hb)
    have HRdR_15 := Lib.hid (HRdR_14.out.below hb)
    have HRz_15 := Lib.hid (HRz_14.out.below hb)
    have HRy_15 := Lib.hid (HRy_14.out.below hb)
    have HB_15 := Lib.hid (HB_14.out.trans (hb.mono HB_14.out.size))
    have HD_15 := Lib.hid (HD_14.out.below hb)
    clear HRp_14 HRq_14 HRr_14 HRs_14 HRA_14 HRb_14 HRc_14 HRu_14 HRdP_14 HRv_14 HRdR_14 HRz_14 HRy_14 HB_14 HD_14
    clear hb
    go_wp2_with fail
    (with_reducible refine (derive_any a_b c_b b w15 HRb_15.out HPb.out.len).mono ?_)
    rintro e w16 ⟨⟨dB, a_dB, c_dB, rfl, hr, hp, hc⟩, hb⟩
    have hldB : dB.length ≤ b.length := PM.can_len hp.can (fun k hk => by rw [hc]; exact PM.Van.der ((PM.el_van b).mono (Nat.le_succ _)) k hk)
    have HRdB_16 := Lib.hid hr
    have HPdB := Lib.hid hp
    have HCdB := Lib.hid hc
    have HRp_16 := Lib.hid (HRp_15.out.below hb)
    have HRq_16 := Lib.hid (HRq_15.out.below hb)
    have HRr_16 := Lib.hid (HRr_15.out.below hb)
    have HRs_16 := Lib.hid (HRs_15.out.below hb)
    have HRA_16 := Lib.hid (HRA_15.out.below hb)
    have HRb_16 := Lib.hid (HRb_15.out.below hb)
    have HRc_16 := Lib.hid (HRc_15.out.below hb)
    have HRu_16 := Lib.hid (HRu_15.out.below hb)
    have HRdP_16 := Lib.hid (HRdP_15.out.below hb)
    have HRv_16 := Lib.hid (HRv_15.out.below hb)
    have HRdR_16 := Lib.hid (HRdR_15.out.below hb)
    have HRz_16 := Lib.hid (HRz_15.out.below hb)
    have HRy_16 := Lib.hid (HRy_15.out.below hb)
    have HB_16 := Lib.hid (HB_15.out.trans (hb.mono HB_15.out.size))
    have HD_16 := Lib.hid (HD_15.out.below hb)
    clear HRp_15 HRq_15 HRr_15 HRs_15 HRA_15 HRb_15 HRc_15 HRu_15 HRdP_15 HRv_15 HRdR_15 HRz_15 HRy_15 HB_15 HD_15
    clear hr hp hc hb
    go_wp2_with fail
    (with_reducible refine (same_yes a_dB a_y c_dB c_y dB y w16 HRdB_16.out HRy_16.out (laws_der HPdB.out.can HPy.out.can HCb.out HCdB.out HCdP.out HCdR.out HCv.out HCz.out HCy.out)).mono ?_)
    rintro e w17 ⟨rfl, hb⟩
    have HRp_17 := Lib.hid (HRp_16.out.below hb)
    have HRq_17 := Lib.hid (HRq_16.out.below hb)
    have HRr_17 := Lib.hid (HRr_16.out.below hb)
    have HRs_17 := Lib.hid (HRs_16.out.below hb)
    have HRA_17 := Lib.hid (HRA_16.out.below hb)
    have HRb_17 := Lib.hid (HRb_16.out.below hb)
    have HRc_17 := Lib.hid (HRc_16.out.below hb)
    have HRu_17 := Lib.hid (HRu_16.out.below hb)
    have HRdP_17 := Lib.hid (HRdP_16.out.below hb)
    have HRv_17 := Lib.hid (HRv_16.out.below hb)
    have HRdR_17 := Lib.hid (HRdR_16.out.below hb)
    have HRz_17 := Lib.hid (HRz_16.out.below hb)
    have HRy_17 := Lib.hid (HRy_16.out.below hb)
    have HRdB_17 := Lib.hid (HRdB_16.out.below hb)
    have HB_17 := Lib.hid (HB_16.out.trans (hb.mono HB_16.out.size))
    have HD_17 := Lib.hid (HD_16.out.below hb)
    clear HRp_16 HRq_16 HRr_16 HRs_16 HRA_16 HRb_16 HRc_16 HRu_16 HRdP_16 HRv_16 HRdR_16 HRz_16 HRy_16 HRdB_16 HB_16 HD_16
    clear hb
    go_wp2_with fail
    (with_reducible refine (eval_any a_s c_s s x w17 HRs_17.out).mono ?_)
    rintro e w18 ⟨rfl, hb⟩
    have HRp_18 := Lib.hid (HRp_17.out.below hb)
    have HRq_18 := Lib.hid (HRq_17.out.below hb)
    have HRr_18 := Lib.hid (HRr_17.out.below hb)
    have HRs_18 := Lib.hid (HRs_17.out.below hb)
    have HRA_18 := Lib.hid (HRA_17.out.below hb)
    have HRb_18 := Lib.hid (HRb_17.out.below hb)
    have HRc_18 := Lib.hid (HRc_17.out.below hb)
    have HRu_18 := Lib.hid (HRu_17.out.below hb)
    have HRdP_18 := Lib.hid (HRdP_17.out.below hb)
    have HRv_18 := Lib.hid (HRv_17.out.below hb)
    have HRdR_18 := Lib.hid (HRdR_17.out.below hb)
    have HRz_18 := Lib.hid (HRz_17.out.below hb)
    have HRy_18 := Lib.hid (HRy_17.out.below hb)
    have HRdB_18 := Lib.hid (HRdB_17.out.below hb)
    have HB_18 := Lib.hid (HB_17.out.trans (hb.mono HB_17.out.size))
    have HD_18 := Lib.hid (HD_17.out.below hb)
    clear HRp_17 HRq_17 HRr_17 HRs_17 HRA_17 HRb_17 HRc_17 HRu_17 HRdP_17 HRv_17 HRdR_17 HRz_17 HRy_17 HRdB_17 HB_17 HD_17
    clear hb
    go_wp2_with fail
    (with_reducible refine (eval_any a_p c_p p x w18 HRp_18.out).mono ?_)
    rintro e w19 ⟨rfl, hb⟩
    have HRp_19 := Lib.hid (HRp_18.out.below hb)
    have HRq_19 := Lib.hid (HRq_18.out.below hb)
    have HRr_19 := Lib.hid (HRr_18.out.below hb)
    have HRs_19 := Lib.hid (HRs_18.out.below hb)
    have HRA_19 := Lib.hid (HRA_18.out.below hb)
    have HRb_19 := Lib.hid (HRb_18.out.below hb)
    have HRc_19 := Lib.hid (HRc_18.out.below hb)
    have HRu_19 := Lib.hid (HRu_18.out.below hb)
    have HRdP_19 := Lib.hid (HRdP_18.out.below hb)
    have HRv_19 := Lib.hid (HRv_18.out.below hb)
    have HRdR_19 := Lib.hid (HRdR_18.out.below hb)
    have HRz_19 := Lib.hid (HRz_18.out.below hb)
    have HRy_19 := Lib.hid (HRy_18.out.below hb)
    have HRdB_19 := Lib.hid (HRdB_18.out.below hb)
    have HB_19 := Lib.hid (HB_18.out.trans (hb.mono HB_18.out.size))
    have HD_19 := Lib.hid (HD_18.out.below hb)
    clear HRp_18 HRq_18 HRr_18 HRs_18 HRA_18 HRb_18 HRc_18 HRu_18 HRdP_18 HRv_18 HRdR_18 HRz_18 HRy_18 HRdB_18 HB_18 HD_18
    clear hb
    go_wp2_with fail
    (with_reducible refine (eval_any a_q c_q q x w19 HRq_19.out).mono ?_)
    rintro e w20 ⟨rfl, hb⟩
    have HRp_20 := Lib.hid (HRp_19.out.below hb)
    have HRq_20 := Lib.hid (HRq_19.out.below hb)
    have HRr_20 := Lib.hid (HRr_19.out.below hb)
    have HRs_20 := Lib.hid (HRs_19.out.below hb)
    have HRA_20 := Lib.hid (HRA_19.out.below hb)
    have HRb_20 := Lib.hid (HRb_19.out.below hb)
    have HRc_20 := Lib.hid (HRc_19.out.below hb)
    have HRu_20 := Lib.hid (HRu_19.out.below hb)
    have HRdP_20 := Lib.hid (HRdP_19.out.below hb)
    have HRv_20 := Lib.hid (HRv_19.out.below hb)
    have HRdR_20 := Lib.hid (HRdR_19.out.below hb)
    have HRz_20 := Lib.hid (HRz_19.out.below hb)
    have HRy_20 := Lib.hid (HRy_19.out.below hb)
    have HRdB_20 := Lib.hid (HRdB_19.out.below hb)
    have HB_20 := Lib.hid (HB_19.out.trans (hb.mono HB_19.out.size))
    have HD_20 := Lib.hid (HD_19.out.below hb)
    clear HRp_19 HRq_19 HRr_19 HRs_19 HRA_19 HRb_19 HRc_19 HRu_19 HRdP_19 HRv_19 HRdR_19 HRz_19 HRy_19 HRdB_19 HB_19 HD_19
    clear hb
    have hx1 := ev_xor HCs.out x
    go_wp2_with fail
    have hev := eval_any a_A c_A A 0 w20 HRA_20.out
    rw [show (((0 : PM.G).v : Nat) : Int) = 0 from rfl] at hev
    (with_reducible refine hev.mono ?_)
    clear hev
    rintro e w21 ⟨rfl, hb⟩
    have HRp_21 := Lib.hid (HRp_20.out.below hb)
    have HRq_21 := Lib.hid (HRq_20.out.below hb)
    have HRr_21 := Lib.hid (HRr_20.out.below hb)
    have HRs_21 := Lib.hid (HRs_20.out.below hb)
    have HRA_21 := Lib.hid (HRA_20.out.below hb)
    have HRb_21 := Lib.hid (HRb_20.out.below hb)
    have HRc_21 := Lib.hid (HRc_20.out.below hb)
    have HRu_21 := Lib.hid (HRu_20.out.below hb)
    have HRdP_21 := Lib.hid (HRdP_20.out.below hb)
    have HRv_21 := Lib.hid (HRv_20.out.below hb)
    have HRdR_21 := Lib.hid (HRdR_20.out.below hb)
    have HRz_21 := Lib.hid (HRz_20.out.below hb)
    have HRy_21 := Lib.hid (HRy_20.out.below hb)
    have HRdB_21 := Lib.hid (HRdB_20.out.below hb)
    have HB_21 := Lib.hid (HB_20.out.trans (hb.mono HB_20.out.size))
    have HD_21 := Lib.hid (HD_20.out.below hb)
    clear HRp_20 HRq_20 HRr_20 HRs_20 HRA_20 HRb_20 HRc_20 HRu_20 HRdP_20 HRv_20 HRdR_20 HRz_20 HRy_20 HRdB_20 HB_20 HD_20
    clear hb
    go_wp2_with fail
    have hev := eval_any a_b c_b b 0 w21 HRb_21.out
    rw [show (((0 : PM.G).v : Nat) : Int) = 0 from rfl] at hev
    (with_reducible refine hev.mono ?_)
    clear hev
    rintro e w22 ⟨rfl, hb⟩
    have HRp_22 := Lib.hid (HRp_21.out.below hb)
    have HRq_22 := Lib.hid (HRq_21.out.below hb)
    have HRr_22 := Lib.hid (HRr_21.out.below hb)
    have HRs_22 := Lib.hid (HRs_21.out.below hb)
    have HRA_22 := Lib.hid (HRA_21.out.below hb)
    have HRb_22 := Lib.hid (HRb_21.out.below hb)
    have HRc_22 := Lib.hid (HRc_21.out.below hb)
    have HRu_22 := Lib.hid (HRu_21.out.below hb)
    have HRdP_22 := Lib.hid (HRdP_21.out.below hb)
    have HRv_22 := Lib.hid (HRv_21.out.below hb)
    have HRdR_22 := Lib.hid (HRdR_21.out.below hb)
    have HRz_22 := Lib.hid (HRz_21.out.below hb)
    have HRy_22 := Lib.hid (HRy_21.out.below hb)
    have HRdB_22 := Lib.hid (HRdB_21.out.below hb)
    have HB_22 := Lib.hid (HB_21.out.trans (hb.mono HB_21.out.size))
    have HD_22 := Lib.hid (HD_21.out.below hb)
    clear HRp_21 HRq_21 HRr_21 HRs_21 HRA_21 HRb_21 HRc_21 HRu_21 HRdP_21 HRv_21 HRdR_21 HRz_21 HRy_21 HRdB_21 HB_21 HD_21
    clear hb
    go_wp2_with fail
    have hev := eval_any a_c c_c c 0 w22 HRc_22.out
    rw [show (((0 : PM.G).v : Nat) : Int) = 0 from rfl] at hev
    (with_reducible refine hev.mono ?_)
    clear hev
    rintro e w23 ⟨rfl, hb⟩
    have HRp_23 := Lib.hid (HRp_22.out.below hb)
    have HRq_23 := Lib.hid (HRq_22.out.below hb)
    have HRr_23 := Lib.hid (HRr_22.out.below hb)
    have HRs_23 := Lib.hid (HRs_22.out.below hb)
    have HRA_23 := Lib.hid (HRA_22.out.below hb)
    have HRb_23 := Lib.hid (HRb_22.out.below hb)
    have HRc_23 := Lib.hid (HRc_22.out.below hb)
    have HRu_23 := Lib.hid (HRu_22.out.below hb)
    have HRdP_23 := Lib.hid (HRdP_22.out.below hb)
    have HRv_23 := Lib.hid (HRv_22.out.below hb)
    have HRdR_23 := Lib.hid (HRdR_22.out.below hb)
    have HRz_23 := Lib.hid (HRz_22.out.below hb)
    have HRy_23 := Lib.hid (HRy_22.out.below hb)
    have HRdB_23 := Lib.hid (HRdB_22.out.below hb)
    have HB_23 := Lib.hid (HB_22.out.trans (hb.mono HB_22.out.size))
    have HD_23 := Lib.hid (HD_22.out.below hb)
    clear HRp_22 HRq_22 HRr_22 HRs_22 HRA_22 HRb_22 HRc_22 HRu_22 HRdP_22 HRv_22 HRdR_22 HRz_22 HRy_22 HRdB_22 HB_22 HD_22
    clear hb
    have hAu : A = u := laws_distr HPA.out.can HPu.out.can HCs.out HCA.out HCb.out HCc.out HCu.out
    have hx2 := ev_xor HCu.out 0
    rw [← hAu] at hx2
    have HAU := Lib.hid hAu
    clear hAu
    go_wp2
    go_ret
    exact ⟨rfl, HB_23.out⟩
  · have hLt : decide ((ts.length : Int) ≤ 400) = false := decide_eq_false (by omega)
    go_enter Try.func8, Try.ntmps8
    go_wp2_with fail
    (with_reducible refine (light_any a ts.length cap w).mono ?_)
    rintro e w' ⟨rfl, rfl⟩
    rw [hLt]
    go_wp2_with fail
    (with_reducible refine (awake_yes w').mono ?_)
    rintro e w1 ⟨rfl, hb⟩
    go_wp2
    go_ret
    exact ⟨rfl, hb⟩
end Go.Proofs.Ytfbogjibofeckaa.P
