/- The statement PolyMade: the walk. -/
import Derived.Test.YtfbogjibofeckaaPAgree
namespace Go.Proofs.Ytfbogjibofeckaa.P
open Go Go.RowKit Go.Shelf

theorem rmul_short (a b : Option Addr) (ca cb : Nat) (p q : List PM.G) (w : World) (ha : Row w a p ca) (hb : Row w b q cb) (hp : Pol p) (hq : Pol q) (hl : p.length + q.length ≤ 256) :
    Calls Try.prog 15 #[.slice a p.length ca, .slice b q.length cb] w fun e W => (∃ r a' c', e = .returned (.tuple #[.slice a' (List.length r) c', .int .i64 0]) ∧ Row W a' r c' ∧ r.length ≤ 300) ∧ Below w.heap.size w W := by
  by_cases h0 : p.length = 0 ∨ q.length = 0
  · refine (rmul_zero a b ca cb p q w ha hb hp hq h0).mono ?_
    rintro e W ⟨rfl, hB⟩
    exact ⟨⟨[], none, 0, rfl, Row.nil _ _ _ (by omega), by decide⟩, hB⟩
  · refine (rmul_fit a b ca cb p q w ha hb hp hq (by omega) (by omega) hl).mono ?_
    rintro e W ⟨⟨r, a', c', rfl, hr, hp', _⟩, hB⟩
    exact ⟨⟨r, a', c', rfl, hr, by have := hp'.len; omega⟩, hB⟩
theorem one2 (w : World) (dp : Nat) (a : Option Addr) (cap : Nat) (ts : List Int) (k : Nat) (hD : Dice w dp a cap ts k) :
    Calls Try.prog 14 #[.pointer (some ⟨dp, 0, none⟩), .int .i64 2] w fun e W => ∃ (t : Bool) (k' : Nat), e = .returned (.bool t) ∧ Dice W dp a cap ts k' ∧ w.grownBy W (some dp) := one_any w dp a cap ts k 2 (by decide) (by decide) hD

set_option maxRecDepth 100000 in
set_option maxHeartbeats 4000000 in
theorem polyMade_any (a : Option Addr) (cap : Nat) (ts : List Int) (x : PM.G) (w : World) (hA : IRow w a ts cap) :
    Calls Try.prog 4 #[.slice a ts.length cap, .int .u8 (x.v : Int)] w fun e W => e = .returned (.bool true) ∧ Below w.heap.size w W := by
  have HA := Lib.hid hA
  clear hA
  by_cases hL : ts.length ≤ 400
  · have hLt : decide ((ts.length : Int) ≤ 400) = true := decide_eq_true (by omega)
    go_enter Try.func4, Try.ntmps4
    go_wp2_with fail
    (with_reducible refine (light_any a ts.length cap w).mono ?_)
    rintro e w' ⟨rfl, rfl⟩
    rw [hLt]
    go_wp2_with fail
    (with_reducible refine (roll_any a cap ts w' HA.out hL).mono ?_)
    rintro e w0 ⟨rfl, hd, hb⟩
    obtain ⟨dp, hdpe⟩ : ∃ dp, w'.heap.size = dp := ⟨_, rfl⟩
    rw [hdpe] at hd
    have hdp0 : w'.heap.size ≤ dp := by omega
    have HD_0 := Lib.hid hd
    have HB_0 := Lib.hid hb
    clear hd hb
    rw [hdpe]
    clear hdpe
    go_wp2_with fail
    refine (poly_any w0 dp a cap ts _ 12 (by omega) HD_0.out).mono ?_
    rintro e w1 ⟨p, a_p, c_p, kp, rfl, hlp, hc, hr, hf, hd, hg⟩
    have HRp_1 := Lib.hid hr
    have HPp := Lib.hid (show Pol p from ⟨hc, by omega⟩)
    have HNp := Lib.hid (show ∀ b o, a_p = some ⟨b, o, none⟩ → b ≠ dp from fun b o e => by have := hf b o e; have := HD_0.out.lt; omega)
    have HD_1 := Lib.hid hd
    have HB_1 := Lib.hid (below_grown HB_0.out hg HB_0.out.size (fun k e => by cases e; exact hdp0))
    clear HB_0
    clear hr hc hf hd hg HD_0
    go_wp2_with fail
    refine (poly_any w1 dp a cap ts _ 12 (by omega) HD_1.out).mono ?_
    rintro e w2 ⟨q, a_q, c_q, kq, rfl, hlq, hc, hr, hf, hd, hg⟩
    have HRq_2 := Lib.hid hr
    have HPq := Lib.hid (show Pol q from ⟨hc, by omega⟩)
    have HNq := Lib.hid (show ∀ b o, a_q = some ⟨b, o, none⟩ → b ≠ dp from fun b o e => by have := hf b o e; have := HD_1.out.lt; omega)
    have HD_2 := Lib.hid hd
    have HRp_2 := Lib.hid (HRp_1.out.grown hg (fun b o e h => HNp.out b o e (Option.some.inj h)))
    have HB_2 := Lib.hid (below_grown HB_1.out hg HB_1.out.size (fun k e => by cases e; exact hdp0))
    clear HRp_1 HB_1
    clear hr hc hf hd hg HD_1
    go_wp2_with fail
    refine (poly_any w2 dp a cap ts _ 6 (by omega) HD_2.out).mono ?_
    rintro e w3 ⟨c, a_c, c_c, kc, rfl, hlc, hc, hr, hf, hd, hg⟩
    have HRc_3 := Lib.hid hr
    have HPc := Lib.hid (show Pol c from ⟨hc, by omega⟩)
    have HNc := Lib.hid (show ∀ b o, a_c = some ⟨b, o, none⟩ → b ≠ dp from fun b o e => by have := hf b o e; have := HD_2.out.lt; omega)
    have HD_3 := Lib.hid hd
    have HRp_3 := Lib.hid (HRp_2.out.grown hg (fun b o e h => HNp.out b o e (Option.some.inj h)))
    have HRq_3 := Lib.hid (HRq_2.out.grown hg (fun b o e h => HNq.out b o e (Option.some.inj h)))
    have HB_3 := Lib.hid (below_grown HB_2.out hg HB_2.out.size (fun k e => by cases e; exact hdp0))
    clear HRp_2 HRq_2 HB_2
    clear hr hc hf hd hg HD_2
    go_wp2_with fail
    (with_reducible refine (one2 w3 dp a cap ts _ HD_3.out).mono ?_)
    rintro e w4 ⟨t, kt, rfl, hd, hg⟩
    have HD_4 := Lib.hid hd
    have HRp_4 := Lib.hid (HRp_3.out.grown hg (fun b o e h => HNp.out b o e (Option.some.inj h)))
    have HRq_4 := Lib.hid (HRq_3.out.grown hg (fun b o e h => HNq.out b o e (Option.some.inj h)))
    have HRc_4 := Lib.hid (HRc_3.out.grown hg (fun b o e h => HNc.out b o e (Option.some.inj h)))
    have HB_4 := Lib.hid (below_grown HB_3.out hg HB_3.out.size (fun k e => by cases e; exact hdp0))
    clear HRp_3 HRq_3 HRc_3 HB_3
    clear hd hg
    cases t with
    | true =>
      go_wp2_with fail
      (with_reducible refine (rmul_short a_p a_c c_p c_c p c w4 HRp_4.out HRc_4.out HPp.out HPc.out (by omega)).mono ?_)
      rintro e w5 ⟨⟨P, a_P, c_P, rfl, hr, hlP⟩, hb⟩
      have HRP_5 := Lib.hid hr
      clear hr
      have HRp_5 := Lib.hid (HRp_4.out.below hb)
      have HRq_5 := Lib.hid (HRq_4.out.below hb)
      have HRc_5 := Lib.hid (HRc_4.out.below hb)
      have HB_5 := Lib.hid (HB_4.out.trans (hb.mono HB_4.out.size))
      clear hb HRp_4 HRq_4 HRc_4 HB_4
      go_wp2_with fail
      (with_reducible refine (rmul_short a_q a_c c_q c_c q c w5 HRq_5.out HRc_5.out HPq.out HPc.out (by omega)).mono ?_)
      rintro e w6 ⟨⟨Q, a_Q, c_Q, rfl, hr, hlQ⟩, hb⟩
      have HRQ_6 := Lib.hid hr
      clear hr
      have HRp_6 := Lib.hid (HRp_5.out.below hb)
      have HRq_6 := Lib.hid (HRq_5.out.below hb)
      have HRc_6 := Lib.hid (HRc_5.out.below hb)
      have HRP_6 := Lib.hid (HRP_5.out.below hb)
      have HB_6 := Lib.hid (HB_5.out.trans (hb.mono HB_5.out.size))
      clear hb HRp_5 HRq_5 HRc_5 HRP_5 HB_5
      go_wp2_with fail
      (with_reducible refine (awake_yes w6).mono ?_)
      rintro e w7 ⟨rfl, hb⟩
      have HRp_7 := Lib.hid (HRp_6.out.below hb)
      have HRq_7 := Lib.hid (HRq_6.out.below hb)
      have HRc_7 := Lib.hid (HRc_6.out.below hb)
      have HRP_7 := Lib.hid (HRP_6.out.below hb)
      have HRQ_7 := Lib.hid (HRQ_6.out.below hb)
      have HB_7 := Lib.hid (HB_6.out.trans (hb.mono HB_6.out.size))
      clear HRp_6 HRq_6 HRc_6 HRP_6 HRQ_6 HB_6
      clear hb
      go_wp2_with fail
      (with_reducible refine (agree_any a_P a_Q c_P c_Q P Q x w7 (by omega) HRP_7.out HRQ_7.out).mono ?_)
      rintro e w8 ⟨rfl, hb⟩
      have HRp_8 := Lib.hid (HRp_7.out.below hb)
      have HRq_8 := Lib.hid (HRq_7.out.below hb)
      have HRc_8 := Lib.hid (HRc_7.out.below hb)
      have HRP_8 := Lib.hid (HRP_7.out.below hb)
      have HRQ_8 := Lib.hid (HRQ_7.out.below hb)
      have HB_8 := Lib.hid (HB_7.out.trans (hb.mono HB_7.out.size))
      clear hb HRp_7 HRq_7 HRc_7 HRP_7 HRQ_7 HB_7
      go_wp2_with fail
      (with_reducible refine (agree_any a_Q a_P c_Q c_P Q P x w8 (by omega) HRQ_8.out HRP_8.out).mono ?_)
      rintro e w9 ⟨rfl, hb⟩
      have HRp_9 := Lib.hid (HRp_8.out.below hb)
      have HRq_9 := Lib.hid (HRq_8.out.below hb)
      have HRc_9 := Lib.hid (HRc_8.out.below hb)
      have HRP_9 := Lib.hid (HRP_8.out.below hb)
      have HRQ_9 := Lib.hid (HRQ_8.out.below hb)
      have HB_9 := Lib.hid (HB_8.out.trans (hb.mono HB_8.out.size))
      clear hb HRp_8 HRq_8 HRc_8 HRP_8 HRQ_8 HB_8
      go_wp2
      go_ret
      exact ⟨rfl, HB_9.out⟩
    | false =>
      go_wp2_with fail
      (with_reducible refine (awake_yes w4).mono ?_)
      rintro e w5 ⟨rfl, hb⟩
      have HRp_5 := Lib.hid (HRp_4.out.below hb)
      have HRq_5 := Lib.hid (HRq_4.out.below hb)
      have HRc_5 := Lib.hid (HRc_4.out.below hb)
      have HB_5 := Lib.hid (HB_4.out.trans (hb.mono HB_4.out.size))
      clear HRp_4 HRq_4 HRc_4 HB_4
      clear hb
      go_wp2_with fail
      (with_reducible refine (agree_any a_p a_q c_p c_q p q x w5 (by omega) HRp_5.out HRq_5.out).mono ?_)
      rintro e w6 ⟨rfl, hb⟩
      have HRp_6 := Lib.hid (HRp_5.out.below hb)
      have HRq_6 := Lib.hid (HRq_5.out.below hb)
      have HRc_6 := Lib.hid (HRc_5.out.below hb)
      have HB_6 := Lib.hid (HB_5.out.trans (hb.mono HB_5.out.size))
      clear hb HRp_5 HRq_5 HRc_5 HB_5
      go_wp2_with fail
      (with_reducible refine (agree_any a_q a_p c_q c_p q p x w6 (by omega) HRq_6.out HRp_6.out).mono ?_)
      rintro e w7 ⟨rfl, hb⟩
      have HRp_7 := Lib.hid (HRp_6.out.below hb)
      have HRq_7 := Lib.hid (HRq_6.out.below hb)
      have HRc_7 := Lib.hid (HRc_6.out.below hb)
      have HB_7 := Lib.hid (HB_6.out.trans (hb.mono HB_6.out.size))
      clear hb HRp_6 HRq_6 HRc_6 HB_6
      go_wp2
      go_ret
      exact ⟨rfl, HB_7.out⟩
  · have hLt : decide ((ts.length : Int) ≤ 400) = false := decide_eq_false (by omega)
    go_enter Try.func4, Try.ntmps4
    go_wp2_with fail
    (with_reducible refine (light_any a ts.length cap w).mono ?_)
    rintro e w' ⟨rfl, rfl⟩
    rw [hLt]
    go_wp2_with fail
    (with_reducible refine (awake_yes w').mono ?_)
    rintro e w1 ⟨rfl, hb⟩
    go_wp2
    go_ret
    exact ⟨rfl, hb⟩
end Go.Proofs.Ytfbogjibofeckaa.P
