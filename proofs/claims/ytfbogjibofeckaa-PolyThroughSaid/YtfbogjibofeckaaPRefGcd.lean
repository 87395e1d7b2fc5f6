/- ref04.Divide of a shorter polynomial, by zero; ref04.Gcd. -/
import Derived.Test.YtfbogjibofeckaaPRefDiv
namespace Go.Proofs.Ytfbogjibofeckaa.P
open Go Go.RowKit Go.Shelf

set_option maxRecDepth 100000 in
set_option maxHeartbeats 1000000 in
theorem rdiv_short (a b : Option Addr) (ca cb : Nat) (p q : List PM.G) (w : World) (ha : Row w a p ca) (hb : Row w b q cb) (hp : Pol p) (hq : Pol q) (hl : p.length < q.length) :
    Calls Try.prog 29 #[.slice a p.length ca, .slice b q.length cb] w fun e W => DRes p q e W ∧ Below w.heap.size w W := by
  have hra := ha.room
  have hma := ha.most
  have hrb := hb.room
  have hmb := hb.most
  have hlp := hp.len
  have hlq := hq.len
  have HA := Lib.hid ha
  have HB := Lib.hid hb
  have HP := Lib.hid hp
  have HQ := Lib.hid hq
  clear ha hb hp hq
  have hz : ((q.length : Int) == 0) = false := beq_false_of_ne (by omega)
  obtain ⟨nq, hnq⟩ : ∃ nq, q.length - 1 = nq := ⟨_, rfl⟩
  have hci : (q.length : Int) - 1 = (nq : Int) := by omega
  have hcl : nq < q.length := by omega
  have hwc : IntKind.i64.wrap (nq : Int) = (nq : Int) := by rw [IntKind.wrap_i64]; omega
  obtain ⟨b2, o2, rfl, hct⟩ := HB.out.el nq hcl
  have HI := Lib.hid (rinverse_any (PM.el q nq).v (PM.el q nq).lt)
  clear hnq
  go_enter Try.func29, Try.ntmps29
  go_wp2_with fail
  (with_reducible refine (rvalid_yes a p ca w HA.out HP.out).mono ?_)
  rintro e w1 ⟨rfl, rfl⟩
  go_wp2_with fail
  (with_reducible refine (rvalid_yes _ q cb w HB.out HQ.out).mono ?_)
  rintro e w1 ⟨rfl, rfl⟩
  go_upto_region 6 with (at_builtin; refine wpList_appAny rfl _ _ rfl (B := w.heap.size) (zs := []) (ys := p) rfl (Own.nil _ _) rfl HA.out (by show 0 + _ < 1000000; omega) (Nat.le_refl _) ?_; intro a' cr w2 hown' hb'; have HO := Lib.hid hown'; have HB2 := Lib.hid hb'; clear hown' hb')
  have ho := HO.out
  rw [List.nil_append] at ho
  have hcc := ho.rowAt.room
  have hcm := ho.rowAt.most
  have HOR := Lib.hid ho
  have hct2 := cell_below HB2.out hct
  clear HO ho
  go_wp2_with fail
  (with_reducible refine (HI.out _).mono ?_)
  rintro e w4 ⟨rfl, rfl⟩
  obtain ⟨t, ht⟩ : ∃ t : Int, (p.length : Int) - (q.length : Int) = t := ⟨_, rfl⟩
  have htn : t < 0 := by omega
  have ht2 : -1000 < t := by omega
  go_wp2_with fail
  go_loopw [11] (fun i wr => i = .int .i64 t ∧ wr = w2) (fun _ _ => 0)
  case atStart => exact ⟨rfl, rfl⟩
  case round =>
    obtain ⟨rfl, hw⟩ := hrel
    subst hw
    have hTA := Lib.hid (rtrim_any none [] 0 wr (Row.nil _ _ _ (by omega)) (by decide))
    go_wp2_with fail
    refine hTA.out.mono ?_
    rintro e w5 ⟨⟨a5, c5, rfl, ho5⟩, hb5⟩
    have hTR := Lib.hid (rtrim_any a' p cr w5 (HOR.out.rowAt.below hb5) (by omega))
    have HB5 := Lib.hid (HB2.out.trans (hb5.mono HB2.out.size))
    have HO5 := Lib.hid ho5
    clear hb5 ho5
    go_wp2_with fail
    (with_reducible refine hTR.out.mono ?_)
    rintro e w6 ⟨⟨a6, c6, rfl, ho6⟩, hb6⟩
    have hTP : PM.trimL p = p := PM.trimL_can HP.out.can
    rw [hTP] at ho6 ⊢
    have HR6 := Lib.hid ho6.rowAt
    have HR5 := Lib.hid (HO5.out.rowAt.below hb6)
    have HB6 := Lib.hid (HB5.out.trans (hb6.mono HB5.out.size))
    clear ho6 hb6 hTP
    go_wp2_with fail
    exact bodyPost_ret (v := .tuple #[.slice a5 ([] : List PM.G).length c5, .slice a6 p.length c6, .int .i64 0]) (by simp [results, Try.results29, go_sem, PM.trimL_nil]) rfl ⟨⟨[], p, a5, c5, a6, c6, rfl, HR5.out, HR6.out, ⟨fun j => by rw [show PM.el [] = PM.zeroC from rfl, PM.conv_zeroC_l, PM.G.zero_add], by omega, HP.out.can, PM.can_nil, by show 0 = _; omega⟩⟩, HB6.out⟩
/-- **ref04.Divide** of two polynomials. -/
theorem rdiv_yes (a b : Option Addr) (ca cb : Nat) (p q : List PM.G) (w : World) (ha : Row w a p ca) (hb : Row w b q cb) (hp : Pol p) (hq : Pol q) (hq0 : 0 < q.length) :
    Calls Try.prog 29 #[.slice a p.length ca, .slice b q.length cb] w fun e W => DRes p q e W ∧ Below w.heap.size w W := by
  by_cases hl : q.length ≤ p.length
  · exact rdiv_long a b ca cb p q w ha hb hp hq hq0 hl
  · exact rdiv_short a b ca cb p q w ha hb hp hq (by omega)
set_option maxHeartbeats 400000 in
theorem rdiv_zero (a b : Option Addr) (ca cb : Nat) (p q : List PM.G) (w : World) (ha : Row w a p ca) (hb : Row w b q cb) (hp : Pol p) (hq : Pol q) (hq0 : q.length = 0) :
    Calls Try.prog 29 #[.slice a p.length ca, .slice b q.length cb] w fun e W => e = .returned (.tuple #[.slice none 0 0, .slice none 0 0, .int .i64 4]) ∧ Below w.heap.size w W := by
  have HA := Lib.hid ha
  have HB := Lib.hid hb
  have HP := Lib.hid hp
  have HQ := Lib.hid hq
  clear ha hb hp hq
  have hz : ((q.length : Int) == 0) = true := by rw [hq0]; rfl
  clear hq0
  go_enter Try.func29, Try.ntmps29
  go_wp2_with fail
  (with_reducible refine (rvalid_yes a p ca w HA.out HP.out).mono ?_)
  rintro e w1 ⟨rfl, rfl⟩
  go_wp2_with fail
  (with_reducible refine (rvalid_yes b q cb w HB.out HQ.out).mono ?_)
  rintro e w1 ⟨rfl, rfl⟩
  go_wp2
  exact bodyPost_ret (v := .tuple #[.slice none 0 0, .slice none 0 0, .int .i64 4]) (by simp [results, Try.results29, go_sem]) rfl ⟨rfl, Below.refl _ _⟩

def RGOut (w : World) (d : List PM.G) (iv : PM.G) (o i : Value) (W : World) : Prop :=
  ∃ (k : Nat) (ys : List PM.G) (ao : Option Addr) (co : Nat), i = .int .i64 (k : Int) ∧ k ≤ d.length ∧ o = .slice ao k co ∧ ys.length = k ∧ (∀ j, j < k → PM.el ys j = PM.el d j * iv) ∧ Own W w.heap.size (.slice ao k co) ys ∧ Below w.heap.size w W

set_option maxRecDepth 100000 in
set_option maxHeartbeats 1000000 in
/-- **ref04.Gcd** -/
theorem rgcd_yes (a b : Option Addr) (ca cb : Nat) (p q : List PM.G) (w : World) (ha : Row w a p ca) (hb : Row w b q cb) (hp : Pol p) (hq : Pol q) :
    Calls Try.prog 30 #[.slice a p.length ca, .slice b q.length cb] w fun e W => GRes p q e W ∧ Below w.heap.size w W := by
  have HA := Lib.hid ha
  have HB := Lib.hid hb
  have HP := Lib.hid hp
  have HQ := Lib.hid hq
  clear ha hb hp hq
  go_enter Try.func30, Try.ntmps30
  go_wp2_with fail
  (with_reducible refine (rvalid_yes a p ca w HA.out HP.out).mono ?_)
  rintro e w1 ⟨rfl, rfl⟩
  go_wp2_with fail
  (with_reducible refine (rvalid_yes b q cb w HB.out HQ.out).mono ?_)
  rintro e w1 ⟨rfl, rfl⟩
  go_wp2_with fail
  go_loopw [0, 1] (fun d r wr => GcdRel w p q d r wr) (fun _ r _ => lenV r)
  case atStart => exact ⟨p, q, a, ca, b, cb, rfl, rfl, HA.out, HB.out, HP.out, HQ.out, fun _ => Iff.rfl, Below.refl _ _⟩
  case round =>
    obtain ⟨d, r, a1, c1, a2, c2, rfl, rfl, h1, h2, hd, hr, hdv, hB⟩ := hrel
    have hr1 := h1.room
    have hm1 := h1.most
    have hr2 := h2.room
    have hm2 := h2.most
    have H1 := Lib.hid h1
    have H2 := Lib.hid h2
    have HDP := Lib.hid hd
    have HRP := Lib.hid hr
    have HDV := Lib.hid hdv
    have HBB := Lib.hid hB
    clear h1 h2 hd hr hdv hB
    have hwr := HBB.out.size
    by_cases h0 : 0 < r.length
    · go_wp2_with fail
      (with_reducible refine (rdiv_yes a1 a2 c1 c2 d r wr H1.out H2.out HDP.out HRP.out h0).mono ?_)
      rintro e w3 ⟨⟨A, s, b1, e1, b2, e2, rfl, k1, k2, heq⟩, hb3⟩
      have hm3 := k2.most
      have hr3 := k2.room
      have K2 := Lib.hid k2
      have H23 := Lib.hid (H2.out.below hb3)
      have HEQ := Lib.hid heq
      have HB3 := Lib.hid (HBB.out.trans (hb3.mono hwr))
      clear k1 k2 heq hb3
      go_wp2_with fail
      go_roundw
      case rel => exact ⟨r, s, a2, c2, b2, e2, rfl, rfl, H23.out, K2.out, HRP.out, HEQ.out.pol HRP.out, fun h => (dv_step HEQ.out h).symm.trans (HDV.out h), HB3.out⟩
      case measure => exact HEQ.out.less
    · obtain rfl : r = [] := List.length_eq_zero_iff.1 (by omega)
      by_cases hd0 : 0 < d.length
      · have hz : ((d.length : Int) == 0) = false := beq_false_of_ne (by omega)
        have hdl := HDP.out.len
        obtain ⟨n, hnn⟩ : ∃ n, d.length - 1 = n := ⟨_, rfl⟩
        have hci : (d.length : Int) - 1 = (n : Int) := by omega
        have hcl : n < d.length := by omega
        have hwc : IntKind.i64.wrap (n : Int) = (n : Int) := by rw [IntKind.wrap_i64]; omega
        obtain ⟨db, dof, rfl, hct⟩ := H1.out.el n hcl
        have hne : PM.el d n ≠ 0 := by rw [← hnn]; exact HDP.out.can hd0
        have HI := Lib.hid (rinverse_any (PM.el d n).v (PM.el d n).lt)
        obtain ⟨iv, hiv⟩ : ∃ iv : PM.G, iv = (PM.el d n).inv := ⟨_, rfl⟩
        have hivv : (FM.invV (PM.el d n).v : Int) = (iv.v : Int) := by rw [hiv]; rfl
        have HIV := Lib.hid hiv
        have HNE := Lib.hid hne
        have HNN := Lib.hid hnn
        rw [hivv] at HI
        clear hiv hivv hne hnn
        go_wp2_with fail
        (with_reducible refine (HI.out _).mono ?_)
        rintro e w4 ⟨rfl, rfl⟩
        go_wp2_with fail
        obtain ⟨w0, hw0⟩ : ∃ w0, w0 = wr := ⟨_, rfl⟩
        have hst : RGOut w0 d iv (.slice none 0 0) (.int .i64 0) wr := ⟨0, [], none, 0, rfl, Nat.zero_le _, rfl, rfl, fun j hj => absurd hj (Nat.not_lt_zero _), Own.nil _ _, by rw [hw0]; exact Below.refl _ _⟩
        have HST := Lib.hid hst
        have HB0 := Lib.hid (show Below w.heap.size w w0 by rw [hw0]; exact HBB.out)
        have H10 := Lib.hid (show Row w0 (some ⟨db, dof, none⟩) d c1 by rw [hw0]; exact H1.out)
        clear hst hci hwc hct
        clear hw0
        go_loopw [11, 12] (fun o i wr => RGOut w0 d iv o i wr) (fun _ i _ => d.length - (intOf i).toNat)
        case atStart => exact HST.out
        case round =>
          clear HST
          obtain ⟨k, ys, ao, co, rfl, hk, rfl, hlen, hel, hown, hB⟩ := hrel
          have HLN := Lib.hid hlen
          have HEL := Lib.hid hel
          have HO := Lib.hid hown
          have HBW := Lib.hid hB
          have hsz := hB.size
          have hrow := H10.out.below hB
          clear hlen hel hown hB
          by_cases hlt : k < d.length
          · have hc1 := hrow.cell k hlt
            clear hrow
            go_wp2_with (first
              | (go_at_call 38; refine (rfmul_any _ _ _).mono ?_; rintro e w5 ⟨rfl, rfl⟩)
              | (at_builtin; refine wpList_app1 rfl _ _ rfl (PM.el d k * iv) rfl (show Own _ w0.heap.size (.slice ao k co) ys from HO.out.alloc _) rfl (cell_new _ _ _) rfl (by rw [HLN.out]; omega) (by simp; omega) ?_; intro a3 cap3 w3 hown3 hg3 hb3))
            go_roundw
            case rel =>
              have hb5 : Below w0.heap.size wr w3 := ((Below.refl w0.heap.size wr).alloc hsz _).trans hb3
              refine ⟨k + 1, ys ++ [PM.el d k * iv], a3, cap3, by go_num, hlt, by rw [HLN.out], by rw [List.length_append, HLN.out]; rfl, fun j hj => ?_, ?_, HBW.out.trans hb5⟩
              · rw [PM.el_append, HLN.out]
                by_cases e : j < k
                · rw [if_pos e]; exact HEL.out j e
                · rw [if_neg e, show j = k by omega, Nat.sub_self]; rfl
              · have := hown3
                rw [List.length_append, HLN.out] at this
                exact this
            case measure => simp [intOf]; omega
          · obtain rfl : k = d.length := by omega
            have hel : ∀ j, PM.el ys j = iv * PM.el d j := fun j => by
              by_cases h : j < d.length
              · rw [HEL.out j h, PM.G.mul_comm]
              · rw [PM.el_ge (by rw [HLN.out]; omega), PM.el_ge (by omega), PM.G.mul_zero]
            have hivn : iv ≠ 0 := by rw [HIV.out]; exact PM.G.inv_ne HNE.out
            have hgo : GcdOf p q ys := by
              refine ⟨⟨fun _ => ?_, by rw [HLN.out]; omega⟩, fun h => ?_, fun _ => ?_⟩
              · rw [HLN.out, HNN.out, hel]; exact PM.G.mul_ne hivn HNE.out
              · rw [dv_smul_iff hivn hel, ← HDV.out h]
                exact ⟨fun hh => ⟨hh, dv_nil h⟩, fun hh => hh.1⟩
              · rw [HLN.out, HNN.out, hel, HIV.out, PM.G.mul_comm, PM.G.mul_inv HNE.out]
            have HGO := Lib.hid hgo
            clear hgo hel hrow
            go_wp2_with fail
            exact bodyPost_ret (v := .tuple #[.slice ao d.length co, .int .i64 0]) (by simp [results, Try.results30, go_sem]) rfl ⟨⟨ys, ao, co, by rw [HLN.out], (show Own wr w0.heap.size (.slice ao ys.length co) ys by rw [HLN.out]; exact HO.out).rowAt, HGO.out⟩, HB0.out.trans (HBW.out.mono HB0.out.size)⟩
      · obtain rfl : d = [] := List.length_eq_zero_iff.1 (by omega)
        go_wp2_with fail
        exact bodyPost_ret (v := .tuple #[.slice none 0 0, .int .i64 0]) (by simp [results, Try.results30, go_sem]) rfl ⟨⟨[], none, 0, rfl, Row.nil _ _ _ (by omega), ⟨⟨PM.can_nil, Nat.zero_le _⟩, fun h => by
          rw [← HDV.out h]; exact ⟨fun hh => ⟨hh, hh⟩, fun hh => hh.1⟩, fun h => absurd h (by decide)⟩⟩, HBB.out⟩
end Go.Proofs.Ytfbogjibofeckaa.P
