/- The statement PolyDivides: the walk. -/
import Derived.Test.YtfbogjibofeckaaPAwake
import Derived.Test.YtfbogjibofeckaaPGcd
import Derived.Test.YtfbogjibofeckaaPLaws
namespace Go.Proofs.Ytfbogjibofeckaa.P
open Go Go.RowKit Go.Shelf

theorem div_sum {p q A r m s : List PM.G} (h : DivEq p q A r) (hp : Pol p) (hs : Pol s) (hm : ∀ k, PM.el m k = PM.conv (PM.el A) (PM.el q) k) (ha : ∀ k, PM.el s k = PM.addC (PM.el m) (PM.el r) k) : s = p :=
  PM.can_ext hs.can hp.can (fun k => by rw [ha, h.eq k, ← hm]; rfl)
theorem gcd_pos {p q g : List PM.G} (h : GcdOf p q g) (hq : Pol q) (h0 : 0 < q.length) : 0 < g.length := by
  rcases Nat.eq_zero_or_pos g.length with e | e
  · have hg : g = [] := List.length_eq_zero_iff.1 e
    subst hg
    have h1 := (h.dv (PM.el [])).1 (PM.Dv.refl _)
    exact absurd (PM.Dv.of_zero h1.2 (fun _ => rfl) (q.length - 1)) (hq.can h0)
  · exact e
theorem rest_nil {p g A u : List PM.G} (h : DivEq p g A u) (hd : PM.Dv (PM.el g) (PM.el p)) (hg : Pol g) (h0 : 0 < g.length) : u = [] := by
  have hz := PM.Dv.rest (n := g.length - 1) hd (by rw [show g.length - 1 + 1 = g.length by omega]; exact PM.el_van g) (hg.can h0) (PM.el_van A) (fun k hk => PM.el_ge (by have := h.less; omega)) h.eq
  exact List.length_eq_zero_iff.1 (Nat.le_zero.1 (PM.can_len h.can (fun k _ => hz k)))

set_option maxRecDepth 100000 in
set_option maxHeartbeats 4000000 in
theorem polyDivides_any (a : Option Addr) (cap : Nat) (ts : List Int) (x : PM.G) (w : World) (hA : IRow w a ts cap) :
    Calls Try.prog 6 #[.slice a ts.length cap, .int .u8 (x.v : Int)] w fun e W => e = .returned (.bool true) ∧ Below w.heap.size w W := by
  have HA := Lib.hid hA
  clear hA
  by_cases hL : ts.length ≤ 400
  · have hLt : decide ((ts.length : Int) ≤ 400) = true := decide_eq_true (by omega)
    go_enter Try.func6, Try.ntmps6
    go_wp2_with fail
    (with_reducible refine (light_any a ts.length cap w).mono ?_)
    rintro e w' ⟨rfl, rfl⟩
    rw [hLt]
    go_wp2_with fail
    (with_reducible refine (roll_any a cap ts w' HA.out hL).mono ?_)
    rintro e w0 ⟨rfl, hd, hb⟩
    obtain ⟨dp, hdpe⟩ : ∃ dp, w'.heap.size = dp := ⟨_, rfl⟩
    rw [hdpe] at hd
    have hdp0 : w'.heap.size ≤ dp := by omega
    have HD_0 := Lib.hid hd
    have HB_0 := Lib.hid hb
    clear hd hb
    rw [hdpe]
    clear hdpe
    go_wp2_with fail
    refine (poly_any w0 dp a cap ts _ 20 (by omega) HD_0.out).mono ?_
    rintro e w1 ⟨p, a_p, c_p, kp, rfl, hlp, hc, hr, hf, hd, hg⟩
    have HRp_1 := Lib.hid hr
    have HPp := Lib.hid (show Pol p from ⟨hc, by omega⟩)
    have HNp := Lib.hid (show ∀ b o, a_p = some ⟨b, o, none⟩ → b ≠ dp from fun b o e => by have := hf b o e; have := HD_0.out.lt; omega)
    have HD_1 := Lib.hid hd
    have HB_1 := Lib.hid (below_grown HB_0.out hg HB_0.out.size (fun k e => by cases e; exact hdp0))
    clear HB_0
    clear hr hc hf hd hg HD_0
    go_wp2_with fail
    refine (poly_any w1 dp a cap ts _ 10 (by omega) HD_1.out).mono ?_
    rintro e w2 ⟨q, a_q, c_q, kq, rfl, hlq, hc, hr, hf, hd, hg⟩
    have HRq_2 := Lib.hid hr
    have HPq := Lib.hid (show Pol q from ⟨hc, by omega⟩)
    have HNq := Lib.hid (show ∀ b o, a_q = some ⟨b, o, none⟩ → b ≠ dp from fun b o e => by have := hf b o e; have := HD_1.out.lt; omega)
    have HD_2 := Lib.hid hd
    have HRp_2 := Lib.hid (HRp_1.out.grown hg (fun b o e h => HNp.out b o e (Option.some.inj h)))
    have HB_2 := Lib.hid (below_grown HB_1.out hg HB_1.out.size (fun k e => by cases e; exact hdp0))
    clear HRp_1 HB_1
    clear hr hc hf hd hg HD_1
    by_cases h0 : q.length = 0
    · have hz : ((q.length : Int) == 0) = true := by rw [h0]; rfl
      have H0 := Lib.hid h0
      clear h0
      go_wp2_with fail
      (with_reducible refine (pdiv_zero a_p a_q c_p c_q p q w2 HRp_2.out HRq_2.out HPp.out HPq.out H0.out).mono ?_)
      rintro e w3 ⟨rfl, hb⟩
      have HRp_3 := Lib.hid (HRp_2.out.below hb)
      have HRq_3 := Lib.hid (HRq_2.out.below hb)
      have HB_3 := Lib.hid (HB_2.out.trans (hb.mono HB_2.out.size))
      have HD_3 := Lib.hid (HD_2.out.below hb)
      clear HRp_2 HRq_2 HB_2 HD_2
      clear hb
      go_wp2_with fail
      (with_reducible refine (awake_yes w3).mono ?_)
      rintro e w4 ⟨rfl, hb⟩
      have HRp_4 := Lib.hid (HRp_3.out.below hb)
      have HRq_4 := Lib.hid (HRq_3.out.below hb)
      have HB_4 := Lib.hid (HB_3.out.trans (hb.mono HB_3.out.size))
      have HD_4 := Lib.hid (HD_3.out.below hb)
      clear HRp_3 HRq_3 HB_3 HD_3
      clear hb
      go_wp2
      go_ret
      exact ⟨rfl, HB_4.out⟩
    · have hq0 : 0 < q.length := by omega
      have hz : ((q.length : Int) == 0) = false := beq_false_of_ne (by omega)
      clear h0
      go_wp2_with fail
      (with_reducible refine (pdiv_yes a_p a_q c_p c_q p q w2 HRp_2.out HRq_2.out HPp.out HPq.out hq0).mono ?_)
      rintro e w3 ⟨⟨A, r, a_A, c_A, a_r, c_r, rfl, hA, hr, heq⟩, hb⟩
      have HRA_3 := Lib.hid hA
      have HRr_3 := Lib.hid hr
      have HEr := Lib.hid heq
      have HPr := Lib.hid (heq.pol HPq.out)
      have HPA := Lib.hid (show Pol A from ⟨heq.canq, by have := heq.len; have := HPp.out.len; have := HPq.out.len; omega⟩)
      have hlrr := heq.less
      have hllA : A.length ≤ p.length + 1 := by have := heq.len; omega
      have HRp_3 := Lib.hid (HRp_2.out.below hb)
      have HRq_3 := Lib.hid (HRq_2.out.below hb)
      have HB_3 := Lib.hid (HB_2.out.trans (hb.mono HB_2.out.size))
      have HD_3 := Lib.hid (HD_2.out.below hb)
      clear HRp_2 HRq_2 HB_2 HD_2
      clear hA hr heq hb
      go_wp2_with fail
      (with_reducible refine (mul_yes a_A a_q c_A c_q A q w3 HRA_3.out HRq_3.out HPA.out HPq.out (by omega)).mono ?_)
      rintro e w4 ⟨⟨m, a_m, c_m, rfl, hr, hp, hc⟩, hb⟩
      have hlm : m.length ≤ A.length + q.length := PM.can_len hp.can (fun k hk => by rw [hc]; exact PM.conv_van _ _ _ _ (PM.el_van A) ((PM.el_van q).mono (Nat.le_succ _)) k hk)
      have HRm_4 := Lib.hid hr
      have HPm := Lib.hid hp
      have HCm := Lib.hid hc
      have HRp_4 := Lib.hid (HRp_3.out.below hb)
      have HRq_4 := Lib.hid (HRq_3.out.below hb)
      have HRA_4 := Lib.hid (HRA_3.out.below hb)
      have HRr_4 := Lib.hid (HRr_3.out.below hb)
      have HB_4 := Lib.hid (HB_3.out.trans (hb.mono HB_3.out.size))
      have HD_4 := Lib.hid (HD_3.out.below hb)
      clear HRp_3 HRq_3 HRA_3 HRr_3 HB_3 HD_3
      clear hr hp hc hb
      go_wp2_with fail
      (with_reducible refine (add_yes a_m a_r c_m c_r m r w4 HRm_4.out HRr_4.out HPm.out HPr.out).mono ?_)
      rintro e w5 ⟨⟨s, a_s, c_s, rfl, hr, hp, hc⟩, hb⟩
      have hls : s.length ≤ max m.length r.length := PM.can_len hp.can (fun k hk => by rw [hc]; exact PM.Van.addC ((PM.el_van m).mono (Nat.le_max_left _ _)) ((PM.el_van r).mono (Nat.le_max_right _ _)) k hk)
      have HRs_5 := Lib.hid hr
      have HPs := Lib.hid hp
      have HCs := Lib.hid hc
      have HRp_5 := Lib.hid (HRp_4.out.below hb)
      have HRq_5 := Lib.hid (HRq_4.out.below hb)
      have HRA_5 := Lib.hid (HRA_4.out.below hb)
      have HRr_5 := Lib.hid (HRr_4.out.below hb)
      have HRm_5 := Lib.hid (HRm_4.out.below hb)
      have HB_5 := Lib.hid (HB_4.out.trans (hb.mono HB_4.out.size))
      have HD_5 := Lib.hid (HD_4.out.below hb)
      clear HRp_4 HRq_4 HRA_4 HRr_4 HRm_4 HB_4 HD_4
      clear hr hp hc hb
      go_wp2_with fail
      (with_reducible refine (gcd_yes a_p a_q c_p c_q p q w5 HRp_5.out HRq_5.out HPp.out HPq.out).mono ?_)
      rintro e w6 ⟨⟨c, a_c, c_c, rfl, hr, hgo⟩, hb⟩
      have HRc_6 := Lib.hid hr
      have HPc := Lib.hid hgo.pol
      have HGc := Lib.hid hgo
      have HRp_6 := Lib.hid (HRp_5.out.below hb)
      have HRq_6 := Lib.hid (HRq_5.out.below hb)
      have HRA_6 := Lib.hid (HRA_5.out.below hb)
      have HRr_6 := Lib.hid (HRr_5.out.below hb)
      have HRm_6 := Lib.hid (HRm_5.out.below hb)
      have HRs_6 := Lib.hid (HRs_5.out.below hb)
      have HB_6 := Lib.hid (HB_5.out.trans (hb.mono HB_5.out.size))
      have HD_6 := Lib.hid (HD_5.out.below hb)
      clear HRp_5 HRq_5 HRA_5 HRr_5 HRm_5 HRs_5 HB_5 HD_5
      clear hr hgo hb
      have hc0 := gcd_pos HGc.out HPq.out hq0
      have hcz : ((c.length : Int) == 0) = false := beq_false_of_ne (by omega)
      have hge : decide ((q.length : Int) ≤ (r.length : Int)) = false := decide_eq_false (by omega)
      have HSP := Lib.hid (div_sum HEr.out HPp.out HPs.out HCm.out HCs.out)
      go_wp2_with fail
      (with_reducible refine (awake_yes w6).mono ?_)
      rintro e w7 ⟨rfl, hb⟩
      have HRp_7 := Lib.hid (HRp_6.out.below hb)
      have HRq_7 := Lib.hid (HRq_6.out.below hb)
      have HRA_7 := Lib.hid (HRA_6.out.below hb)
      have HRr_7 := Lib.hid (HRr_6.out.below hb)
      have HRm_7 := Lib.hid (HRm_6.out.below hb)
      have HRs_7 := Lib.hid (HRs_6.out.below hb)
      have HRc_7 := Lib.hid (HRc_6.out.below hb)
      have HB_7 := Lib.hid (HB_6.out.trans (hb.mono HB_6.out.size))
      have HD_7 := Lib.hid (HD_6.out.below hb)
      clear HRp_6 HRq_6 HRA_6 HRr_6 HRm_6 HRs_6 HRc_6 HB_6 HD_6
      clear hb
      go_wp2_with fail
      (with_reducible refine (same_yes a_s a_p c_s c_p s p w7 HRs_7.out HRp_7.out HSP.out).mono ?_)
      rintro e w8 ⟨rfl, hb⟩
      have HRp_8 := Lib.hid (HRp_7.out.below hb)
      have HRq_8 := Lib.hid (HRq_7.out.below hb)
      have HRA_8 := Lib.hid (HRA_7.out.below hb)
      have HRr_8 := Lib.hid (HRr_7.out.below hb)
      have HRm_8 := Lib.hid (HRm_7.out.below hb)
      have HRs_8 := Lib.hid (HRs_7.out.below hb)
      have HRc_8 := Lib.hid (HRc_7.out.below hb)
      have HB_8 := Lib.hid (HB_7.out.trans (hb.mono HB_7.out.size))
      have HD_8 := Lib.hid (HD_7.out.below hb)
      clear HRp_7 HRq_7 HRA_7 HRr_7 HRm_7 HRs_7 HRc_7 HB_7 HD_7
      clear hb
      go_wp2_with fail
      (with_reducible refine (pdiv_yes a_p a_c c_p c_c p c w8 HRp_8.out HRc_8.out HPp.out HPc.out hc0).mono ?_)
      rintro e w9 ⟨⟨B, u, a_B, c_B, a_u, c_u, rfl, hA, hr, heq⟩, hb⟩
      have HRB_9 := Lib.hid hA
      have HRu_9 := Lib.hid hr
      have HEu := Lib.hid heq
      have HPu := Lib.hid (heq.pol HPc.out)
      have HPB := Lib.hid (show Pol B from ⟨heq.canq, by have := heq.len; have := HPp.out.len; have := HPc.out.len; omega⟩)
      have hlru := heq.less
      have hllB : B.length ≤ p.length + 1 := by have := heq.len; omega
      have HRp_9 := Lib.hid (HRp_8.out.below hb)
      have HRq_9 := Lib.hid (HRq_8.out.below hb)
      have HRA_9 := Lib.hid (HRA_8.out.below hb)
      have HRr_9 := Lib.hid (HRr_8.out.below hb)
      have HRm_9 := Lib.hid (HRm_8.out.below hb)
      have HRs_9 := Lib.hid (HRs_8.out.below hb)
      have HRc_9 := Lib.hid (HRc_8.out.below hb)
      have HB_9 := Lib.hid (HB_8.out.trans (hb.mono HB_8.out.size))
      have HD_9 := Lib.hid (HD_8.out.below hb)
      clear HRp_8 HRq_8 HRA_8 HRr_8 HRm_8 HRs_8 HRc_8 HB_8 HD_8
      clear hA hr heq hb
      have hu := rest_nil HEu.out ((HGc.out.dv _).1 (PM.Dv.refl _)).1 HPc.out hc0
      have hu0 : (u.length : Int) = 0 := by rw [hu]; rfl
      have HU := Lib.hid hu
      clear hu
      go_wp2_with fail
      (with_reducible refine (pdiv_yes a_q a_c c_q c_c q c w9 HRq_9.out HRc_9.out HPq.out HPc.out hc0).mono ?_)
      rintro e w10 ⟨⟨D, v, a_D, c_D, a_v, c_v, rfl, hA, hr, heq⟩, hb⟩
      have HRD_10 := Lib.hid hA
      have HRv_10 := Lib.hid hr
      have HEv := Lib.hid heq
      have HPv := Lib.hid (heq.pol HPc.out)
      have HPD := Lib.hid (show Pol D from ⟨heq.canq, by have := heq.len; have := HPq.out.len; have := HPc.out.len; omega⟩)
      have hlrv := heq.less
      have hllD : D.length ≤ q.length + 1 := by have := heq.len; omega
      have HRp_10 := Lib.hid (HRp_9.out.below hb)
      have HRq_10 := Lib.hid (HRq_9.out.below hb)
      have HRA_10 := Lib.hid (HRA_9.out.below hb)
      have HRr_10 := Lib.hid (HRr_9.out.below hb)
      have HRm_10 := Lib.hid (HRm_9.out.below hb)
      have HRs_10 := Lib.hid (HRs_9.out.below hb)
      have HRc_10 := Lib.hid (HRc_9.out.below hb)
      have HRB_10 := Lib.hid (HRB_9.out.below hb)
      have HRu_10 := Lib.hid (HRu_9.out.below hb)
      have HB_10 := Lib.hid (HB_9.out.trans (hb.mono HB_9.out.size))
      have HD_10 := Lib.hid (HD_9.out.below hb)
      clear HRp_9 HRq_9 HRA_9 HRr_9 HRm_9 HRs_9 HRc_9 HRB_9 HRu_9 HB_9 HD_9
      clear hA hr heq hb
      have hv := rest_nil HEv.out ((HGc.out.dv _).1 (PM.Dv.refl _)).2 HPc.out hc0
      have hv0 : (v.length : Int) = 0 := by rw [hv]; rfl
      have HV := Lib.hid hv
      clear hv
      obtain ⟨nc, hnc⟩ : ∃ nc, c.length - 1 = nc := ⟨_, rfl⟩
      have hci : (c.length : Int) - 1 = (nc : Int) := by omega
      have hcl : nc < c.length := by omega
      have hcr := HRc_10.out.room
      have hcm := HRc_10.out.most
      have hwc : IntKind.i64.wrap (nc : Int) = (nc : Int) := by rw [IntKind.wrap_i64]; omega
      obtain ⟨bc, oc, rfl, hcc⟩ := HRc_10.out.el nc hcl
      have htop : PM.el c nc = PM.G.one := by rw [← hnc]; exact HGc.out.one hc0
      rw [htop, one_int] at hcc
      have HX := Lib.hid (ev_xor HCs.out x)
      clear hnc htop
      go_wp2_with fail
      (with_reducible refine (eval_any a_s c_s s x w10 HRs_10.out).mono ?_)
      rintro e w11 ⟨rfl, hb⟩
      have HRp_11 := Lib.hid (HRp_10.out.below hb)
      have HRq_11 := Lib.hid (HRq_10.out.below hb)
      have HRA_11 := Lib.hid (HRA_10.out.below hb)
      have HRr_11 := Lib.hid (HRr_10.out.below hb)
      have HRm_11 := Lib.hid (HRm_10.out.below hb)
      have HRs_11 := Lib.hid (HRs_10.out.below hb)
      have HRc_11 := Lib.hid (HRc_10.out.below hb)
      have HRB_11 := Lib.hid (HRB_10.out.below hb)
      have HRu_11 := Lib.hid (HRu_10.out.below hb)
      have HRD_11 := Lib.hid (HRD_10.out.below hb)
      have HRv_11 := Lib.hid (HRv_10.out.below hb)
      have HB_11 := Lib.hid (HB_10.out.trans (hb.mono HB_10.out.size))
      have HD_11 := Lib.hid (HD_10.out.below hb)
      clear HRp_10 HRq_10 HRA_10 HRr_10 HRm_10 HRs_10 HRc_10 HRB_10 HRu_10 HRD_10 HRv_10 HB_10 HD_10
      clear hb
      go_wp2_with fail
      (with_reducible refine (eval_any a_m c_m m x w11 HRm_11.out).mono ?_)
      rintro e w12 ⟨rfl, hb⟩
      have HRp_12 := Lib.hid (HRp_11.out.below hb)
      have HRq_12 := Lib.hid (HRq_11.out.below hb)
      have HRA_12 := Lib.hid (HRA_11.out.below hb)
      have HRr_12 := Lib.hid (HRr_11.out.below hb)
      have HRm_12 := Lib.hid (HRm_11.out.below hb)
      have HRs_12 := Lib.hid (HRs_11.out.below hb)
      have HRc_12 := Lib.hid (HRc_11.out.below hb)
      have HRB_12 := Lib.hid (HRB_11.out.below hb)
      have HRu_12 := Lib.hid (HRu_11.out.below hb)
      have HRD_12 := Lib.hid (HRD_11.out.below hb)
      have HRv_12 := Lib.hid (HRv_11.out.below hb)
      have HB_12 := Lib.hid (HB_11.out.trans (hb.mono HB_11.out.size))
      have HD_12 := Lib.hid (HD_11.out.below hb)
      clear HRp_11 HRq_11 HRA_11 HRr_11 HRm_11 HRs_11 HRc_11 HRB_11 HRu_11 HRD_11 HRv_11 HB_11 HD_11
      clear hb
      go_wp2_with fail
      (with_reducible refine (eval_any a_r c_r r x w12 HRr_12.out).mono ?_)
      rintro e w13 ⟨rfl, hb⟩
      have HRp_13 := Lib.hid (HRp_12.out.below hb)
      have HRq_13 := Lib.hid (HRq_12.out.below hb)
      have HRA_13 := Lib.hid (HRA_12.out.below hb)
      have HRr_13 := Lib.hid (HRr_12.out.below hb)
      have HRm_13 := Lib.hid (HRm_12.out.below hb)
      have HRs_13 := Lib.hid (HRs_12.out.below hb)
      have HRc_13 := Lib.hid (HRc_12.out.below hb)
      have HRB_13 := Lib.hid (HRB_12.out.below hb)
      have HRu_13 := Lib.hid (HRu_12.out.below hb)
      have HRD_13 := Lib.hid (HRD_12.out.below hb)
      have HRv_13 := Lib.hid (HRv_12.out.below hb)
      have HB_13 := Lib.hid (HB_12.out.trans (hb.mono HB_12.out.size))
      have HD_13 := Lib.hid (HD_12.out.below hb)
      clear HRp_12 HRq_12 HRA_12 HRr_12 HRm_12 HRs_12 HRc_12 HRB_12 HRu_12 HRD_12 HRv_12 HB_12 HD_12
      clear hb
      have hx1 := HX.out
      go_wp2
      go_ret
      exact ⟨rfl, HB_13.out⟩
  · have hLt : decide ((ts.length : Int) ≤ 400) = false := decide_eq_false (by omega)
    go_enter Try.func6, Try.ntmps6
    go_wp2_with fail
    (with_reducible refine (light_any a ts.length cap w).mono ?_)
    rintro e w' ⟨rfl, rfl⟩
    rw [hLt]
    go_wp2_with fail
    (with_reducible refine (awake_yes w').mono ?_)
    rintro e w1 ⟨rfl, hb⟩
    go_wp2
    go_ret
    exact ⟨rfl, hb⟩
end Go.Proofs.Ytfbogjibofeckaa.P
