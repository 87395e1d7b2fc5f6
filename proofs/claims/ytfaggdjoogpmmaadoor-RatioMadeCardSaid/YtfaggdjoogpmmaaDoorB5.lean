/- The reference's Divide. append of any slice of ints, with no word on a nil one's room. The reference's Gcd. nat.Of. -/
import Derived.Test.YtfaggdjoogpmmaaDoorB4
import Derived.Deep.RegionLaw
import Derived.Deep.RegionHeld3
import Derived.Deep.DeepCutAuto
import Derived.Deep.CutBlock
namespace Go.Proofs.YtfaggdjoogpmmaaDoor
open Go Go.RowKit Go.Shelf

/-- Quotient and rest, in blocks from B on. -/
def RDivRes (B x y : Nat) (e : Ending) (W : World) : Prop :=
  ∃ a1 c1 a2 c2, e = .returned (.tuple #[.agg #[.slice a1 (M.dig (x / y)).length c1], .agg #[.slice a2 (M.dig (x % y)).length c2], .int .i64 0]) ∧ Row W a1 (M.dig (x / y)) c1 ∧ Row W a2 (M.dig (x % y)) c2 ∧ Fresh B a1 (M.dig (x / y)) ∧ Fresh B a2 (M.dig (x % y))

/-- What holds at the head of Divide's loop: the quotient's limbs from k on, and the rest. -/
structure RdSt (wb : World) (x y p8 g k : Nat) (zs : List Int) (ra : Option Addr) (rc : Nat) (W : World) : Prop where
  few : k ≤ (M.dig x).length
  len : zs.length = (M.dig x).length
  lim : M.Lim zs
  quo : M.val (zs.drop k) = ((M.xs x k / y : Nat) : Int)
  own : Own W wb.heap.size (.slice (some ⟨g, 0, none⟩) (M.dig x).length (M.dig x).length) zs
  cell : W.cell? ⟨p8, 0, none⟩ = some (.slice ra (M.dig (M.xs x k % y)).length rc)
  free : W.frozen? ⟨p8, 0, none⟩ = false
  row : Row W ra (M.dig (M.xs x k % y)) rc
  fresh : Fresh (p8 + 1) ra (M.dig (M.xs x k % y))
  nilc : ra = none → rc = 0
  below : Below wb.heap.size wb W
  bnd : wb.heap.size ≤ g ∧ g < p8

def RdRel (wb : World) (x y p8 g : Nat) (i : Value) (W : World) : Prop :=
  ∃ (k : Nat) (zs : List Int) (ra : Option Addr) (rc : Nat), i = .int .i64 ((k : Int) - 1) ∧ RdSt wb x y p8 g k zs ra rc W

theorem Row.storedAt {w : World} {a : Option Addr} {zs : List Int} {cap : Nat} (h : Row w a zs cap) {p : Addr} {s : Option Addr} {n c : Nat} (hp : w.cell? p = some (.slice s n c)) (u : Value) : Row (w.setCell p u) a zs cap :=
  ⟨h.room, h.most, fun j hj => by
    obtain ⟨b, off, e, hc⟩ := h.el j hj
    exact ⟨b, off, e, (World.cell?_setCell_other _ _ _ _ (by rintro rfl; rw [hp] at hc; cases hc)).trans hc⟩⟩
theorem rowAt_len {W : World} {B n cap : Nat} {a : Option Addr} {zs : List Int} (h : Own W B (.slice a n cap) zs) (hl : zs.length = n) : Row W a zs cap := by
  subst hl; exact h.rowAt
theorem Own.one {W : World} {B : Nat} (d : Int) (hB : B ≤ W.heap.size) : Own (W.alloc (.cells #[.int .i64 d] 3)) B (.slice (some ⟨W.heap.size, 0, none⟩) 1 1) [d] := by
  have := World.ownsRow_lit (base := B) (e := 3) (size := 1) W #[.int .i64 d] 1 hB (by decide) rfl
  unfold Own
  simpa using this

set_option maxRecDepth 100000 in
set_option maxHeartbeats 2000000 in
/-- **ref01.Divide** by a number that is not 0. -/
theorem rdiv_pos (a b : Option Addr) (ca cb x y : Nat) (w : World) (hy : 0 < y) (hx200 : (M.dig x).length ≤ 200) (hy200 : (M.dig y).length ≤ 200) (hA : Row w a (M.dig x) ca) (hB : Row w b (M.dig y) cb) :
    Calls Tryd.prog 64 #[.agg #[.slice a (M.dig x).length ca], .agg #[.slice b (M.dig y).length cb]] w fun e W' => RDivRes w.heap.size x y e W' ∧ Below w.heap.size w W' := by
  have hyl : ¬ (M.dig y).length = 0 := by intro h; have := M.dig_nil.1 (List.length_eq_zero_iff.1 h); omega
  have Hvx := Lib.hid (vld_dig hx200)
  have Hvy := Lib.hid (vld_dig hy200)
  have HA := Lib.hid hA
  have HB := Lib.hid hB
  clear hA hB
  go_enter Tryd.func64, Tryd.ntmps64
  go_wp2_with fail
  obtain ⟨w4, hw4, hs4, hb4, c0, c1, c2, f2, c3, f3⟩ := boxes4 w (.slice a (M.dig x).length ca) (.slice b (M.dig y).length cb)
  rw [show ((((w.alloc (.cells #[.slice a (M.dig x).length ca] 24)).alloc (.cells #[.slice b (M.dig y).length cb] 24)).alloc (.cells #[.slice none 0 0] 24)).alloc (.cells #[.slice none 0 0] 24)) = w4 from hw4.symm]
  have HB4 := Lib.hid hb4
  clear hw4 hb4
  refine (rvalid_yes a _ ca _ (HA.out.below HB4.out) Hvx.out).mono ?_
  rintro e w5 ⟨rfl, hb5⟩
  have d0 := cell_below hb5 c0
  have d1 := cell_below hb5 c1
  have d2 := cell_below hb5 c2
  have g2 := frozen_below hb5 c2 f2
  have d3 := cell_below hb5 c3
  have g3 := frozen_below hb5 c3 f3
  have HB5 := Lib.hid (HB4.out.trans (hb5.mono HB4.out.size))
  have hs5 := hb5.size
  clear c0 c1 c2 f2 c3 f3 hb5
  go_wp2_with fail
  refine (rvalid_yes b _ cb _ (HB.out.below HB5.out) Hvy.out).mono ?_
  rintro e w6 ⟨rfl, hb6⟩
  have c0 := cell_below hb6 d0
  have c1 := cell_below hb6 d1
  have c2 := cell_below hb6 d2
  have f2 := frozen_below hb6 d2 g2
  have c3 := cell_below hb6 d3
  have f3 := frozen_below hb6 d3 g3
  have HB6 := Lib.hid (HB5.out.trans (hb6.mono HB5.out.size))
  have hs6 := hb6.size
  clear d0 d1 d2 g2 d3 g3 hb6
  have hyn : (((M.dig y).length : Int) == 0) = false := beq_eq_false_iff_ne.2 (by omega)
  have HC := Lib.hid (And.intro c0 (And.intro c1 (And.intro c2 (And.intro f2 (And.intro c3 f3)))))
  have HA6 := Lib.hid (HA.out.below HB6.out)
  have HBR6 := Lib.hid (HB.out.below HB6.out)
  go_wp2_with (at_make; refine wpList_make1 rfl _ _ rfl (M.dig x).length rfl rfl (by omega) (by omega) (B := w6.heap.size) (Nat.le_refl _) ?_; intro w7 hown7 hb7; have e0 := cell_later (.cells #[.slice none 0 0] 24) (cell_below hb7 c0))
  rw [List.length_replicate] at hown7
  have hs7 : w6.heap.size < w7.heap.size := (World.ownsRow.lt hown7 w6.heap.size rfl).2
  have HS7 := Lib.hid hs7
  have h0 : RdSt w6 x y w7.heap.size w6.heap.size (M.dig x).length (List.replicate (M.dig x).length 0) none 0 (w7.alloc (.cells #[.slice none 0 0] 24)) := by
    have e0 : M.xs x (M.dig x).length = 0 := M.xs_end (Nat.le_refl _)
    refine ⟨Nat.le_refl _, List.length_replicate .., M.Lim.replicate _, ?_, hown7.alloc _, ?_, frozen_new _ _ _, ?_, ?_, fun _ => rfl, hb7.alloc (Nat.le_of_lt hs7) _, Nat.le_refl _, hs7⟩
    · rw [e0, Nat.zero_div, List.drop_of_length_le (by rw [List.length_replicate]; exact Nat.le_refl _)]; rfl
    · rw [e0, Nat.zero_mod, M.dig_zero]; exact cell_new _ _ _
    · rw [e0, Nat.zero_mod, M.dig_zero]; exact (Own.nil _ 0).rowAt
    · intro b off e _; cases e
  have H0 := Lib.hid h0
  clear h0 hown7 hb7
  go_loopw [9] (fun i wr => RdRel w6 x y w7.heap.size w6.heap.size i wr) (fun i _ => (intOf i + 1).toNat)
  case atStart => exact ⟨_, _, _, _, rfl, H0.out⟩
  case round =>
    clear H0 e0 c0 c1 c2 f2 c3 f3
    obtain ⟨k, zs, ra, rc, rfl, hst⟩ := hrel
    have HST := Lib.hid hst
    clear hst
    rcases Nat.eq_zero_or_pos k with hk0 | hk0
    · subst hk0
      have hc := HST.out.cell
      have hrw := HST.out.row
      have hqu := HST.out.quo
      have hln := HST.out.len
      have hro : Row wr (some ⟨w6.heap.size, 0, none⟩) zs (M.dig x).length := rowAt_len HST.out.own hln
      rw [M.xs_zero] at hc hrw hqu
      rw [List.drop_zero] at hqu
      have hfit := rfit_trim w6.heap.size 0 zs (M.dig x).length (x / y) wr hro (trim_dig HST.out.lim hqu)
      rw [hln] at hfit
      have HFIT := Lib.hid hfit
      have hbw := HST.out.below
      have c2 := cell_below hbw HC.out.2.2.1
      have f2 := frozen_below hbw HC.out.2.2.1 HC.out.2.2.2.1
      have c3 := cell_below hbw HC.out.2.2.2.2.1
      have f3 := frozen_below hbw HC.out.2.2.2.2.1 HC.out.2.2.2.2.2
      have HRW := Lib.hid hrw
      have hwr : w.heap.size + 4 ≤ wr.heap.size := by have := hbw.size; omega
      clear hro hqu hln hfit hrw hbw
      rw [show (((0 : Nat) : Int) - 1) = -1 by omega]
      go_wp2_with fail
      refine HFIT.out.mono ?_
      rintro e w8 ⟨hres, hb8⟩
      obtain ⟨v, rfl, a1, c1, rfl, hr1, hf1⟩ := hres.ok (Nat.le_trans (dig_len_div x y) hx200)
      have d2 := cell_later (.cells #[.slice a1 (M.dig (x / y)).length c1] 24) (cell_below hb8 c2)
      have g2 := frozen_later (.cells #[.slice a1 (M.dig (x / y)).length c1] 24) (cell_below hb8 c2) (frozen_below hb8 c2 f2)
      have d3 := cell_later (.cells #[.slice a1 (M.dig (x / y)).length c1] 24) (cell_below hb8 c3)
      have g3 := frozen_later (.cells #[.slice a1 (M.dig (x / y)).length c1] 24) (cell_below hb8 c3) (frozen_below hb8 c3 f3)
      have d8 := cell_later (.cells #[.slice a1 (M.dig (x / y)).length c1] 24) (cell_below hb8 hc)
      have d9 := cell_new w8 (.slice a1 (M.dig (x / y)).length c1) 24
      have HR1 := Lib.hid (hr1.alloc (.cells #[.slice a1 (M.dig (x / y)).length c1] 24))
      have HF1 := Lib.hid hf1
      have HR2 := Lib.hid ((HRW.out.below hb8).alloc (.cells #[.slice a1 (M.dig (x / y)).length c1] 24))
      have HB9 := Lib.hid ((HB6.out.trans ((HST.out.below.trans (hb8.mono HST.out.below.size)).mono HB6.out.size)).alloc (by have := hb8.size; omega) (.cells #[.slice a1 (M.dig (x / y)).length c1] 24))
      have hs8 : wr.heap.size < (w8.alloc (.cells #[.slice a1 (M.dig (x / y)).length c1] 24)).heap.size := by have := hb8.size; rw [World.size_alloc]; omega
      have hrl : (M.dig (x % y)).length ≤ 200 := Nat.le_trans (dig_len_mod x y) hx200
      have hrm := HRW.out.room
      have hrm2 := HRW.out.most
      clear c2 f2 c3 f3 hc hb8 hr1 hf1 hres
      go_upto_region 26 with fail
      generalize (w8.alloc (.cells #[.slice a1 (M.dig (x / y)).length c1] 24)) = w9 at *
      have hbd : Below w9.heap.size w9 w9.drew := belowN (Below.refl _ w9) 1
      go_region_law (refine step_appRow rfl (.const (.slice none 0 0)) (.tmp 109) rfl (B := w9.heap.size) (zs := []) (ys := M.dig (x % y)) (by rfl) (Own.nil _ _) (by rfl) (HR2.out.drewN 1) HST.out.nilc (by simp; omega) (by simp) ?_; intro a' cap' W' hown' hb0; have hb' := hbd.trans hb0; have k2 := cell_below hb' d2; have l2 := frozen_below hb' d2 g2; have k3 := cell_below hb' d3; have l3 := frozen_below hb' d3 g3; have k9 := cell_below hb' d9; go_simp)
      all_goals (
        rw [List.nil_append] at hown'
        have HOW := Lib.hid hown'
        have HBW := Lib.hid hb'
        clear hown' hb' hb0 hbd d2 g2 d3 g3 d8 d9 k9
        go_wp2_with fail
        refine bodyPost_ret (v := .tuple #[.agg #[.slice a1 (M.dig (x / y)).length c1], .agg #[.slice a' (M.dig (x % y)).length cap'], .int .i64 0]) (by simp [results, Tryd.results64, go_sem, k2, k3]) rfl ⟨⟨a1, c1, a', cap', rfl, ?_, ?_, fun b off e hl => Nat.le_trans (by omega) (HF1.out b off e hl), fun b off e hl => Nat.le_trans (by omega) (HOW.out.fresh b off e hl)⟩, ?_⟩
        · exact ((HR1.out.below HBW.out).setFresh HF1.out (p := ⟨w.heap.size + 1 + 1, 0, none⟩) (by show w.heap.size + 1 + 1 < _; omega) _).setFresh HF1.out (p := ⟨w.heap.size + 1 + 1 + 1, 0, none⟩) (by show w.heap.size + 1 + 1 + 1 < _; omega) _
        · exact (HOW.out.rowAt.setFresh HOW.out.fresh (p := ⟨w.heap.size + 1 + 1, 0, none⟩) (by show w.heap.size + 1 + 1 < _; omega) _).setFresh HOW.out.fresh (p := ⟨w.heap.size + 1 + 1 + 1, 0, none⟩) (by show w.heap.size + 1 + 1 + 1 < _; omega) _
        · exact ((HB9.out.trans (HBW.out.mono HB9.out.size)).setCell (p := ⟨w.heap.size + 1 + 1, 0, none⟩) (by show _ ≤ w.heap.size + 1 + 1; omega) _).setCell (p := ⟨w.heap.size + 1 + 1 + 1, 0, none⟩) (by show _ ≤ w.heap.size + 1 + 1 + 1; omega) _)
    · obtain ⟨j, rfl⟩ : ∃ j, k = j + 1 := ⟨k - 1, by omega⟩
      rw [show (((j + 1 : Nat) : Int) - 1) = (j : Int) by omega]
      have hj : j < (M.dig x).length := HST.out.few
      obtain ⟨r, hr⟩ : ∃ r, M.xs x (j + 1) % y = r := ⟨_, rfl⟩
      have hdl := (M.lim_dig x).get j
      obtain ⟨d, hd⟩ : ∃ d, M.el (M.dig x) j = d := ⟨_, rfl⟩
      obtain ⟨b1, o1, ha1, hca⟩ := (HA6.out.below HST.out.below).el j hj
      subst ha1
      have c0 := cell_below HST.out.below HC.out.1
      have c1 := cell_below HST.out.below HC.out.2.1
      have cr := HST.out.cell
      have fr := HST.out.free
      have hrow := HST.out.row
      rw [hr] at cr hrow
      rw [hd] at hca hdl
      have hrl : (M.dig r).length ≤ 200 := Nat.le_trans (M.dig_len_le.2 (Nat.lt_trans (by rw [← hr]; exact Nat.mod_lt _ hy) (M.dig_len_le.1 (Nat.le_refl _)))) hy200
      have HR := Lib.hid hr
      have HD := Lib.hid hd
      have HRW := Lib.hid hrow
      have hrm := hrow.room
      have hrm2 := hrow.most
      have ham := HA6.out.most
      have har := HA6.out.room
      clear hr hd hrow
      have cr1 := cell_later (.cells #[.int .i64 d] 3) cr
      go_upto_region 10 with fail
      go_cut [10] (fun s10 wx => ∃ (a' : Option Addr) (cap' : Nat), s10 = .slice a' ([d] ++ M.dig r).length cap' ∧ Own wx wr.heap.size (.slice a' ([d] ++ M.dig r).length cap') ([d] ++ M.dig r) ∧ Below wr.heap.size wr wx)
      case first =>
        go_region_law (refine step_appRow rfl (.tmp 50) (.tmp 52) rfl (B := wr.heap.size) (zs := [d]) (ys := M.dig r) (by rfl) ((Own.one d (Nat.le_refl _)).drewN 1) (by rfl) ((HRW.out.alloc _).drewN 1) HST.out.nilc (by simp; omega) (by simp) ?_; intro a' cap' W' hown' hb'; go_simp)
        all_goals (
          go_wp2_with fail
          go_meet
          exact ⟨a', cap', by simp [Nat.add_comm], hown', (belowN ((Below.refl _ wr).alloc (Nat.le_refl _) (.cells #[.int .i64 d] 3)) 1).trans hb'⟩)
      case rest =>
        obtain ⟨a', cap', rfl, hown, hbc⟩ := hcut
        obtain ⟨wa, hwa⟩ : ∃ wa : World, wa = wc := ⟨_, rfl⟩
        subst hwa
        obtain ⟨R, hR⟩ : ∃ R : Nat, d.toNat + 16777216 * r = R := ⟨_, rfl⟩
        have htr : M.trimL ([d] ++ M.dig r) = M.dig R := by rw [← hR]; exact M.rest_dig hdl.1 hdl.2
        have hRlen : (M.dig R).length ≤ 201 := by rw [← hR]; exact M.rest_len hdl.2 (by rw [← HR.out]; exact Nat.mod_lt _ hy) hy200
        have HRR := Lib.hid hR
        have HTR := Lib.hid htr
        have hl0 : 0 < ([d] ++ M.dig r).length := by simp
        obtain ⟨ys, hys⟩ : ∃ ys, [d] ++ M.dig r = ys := ⟨_, rfl⟩
        have hyl2 : ys.length ≤ 201 := by rw [← hys]; simp; omega
        rw [hys] at hown HTR hl0 ⊢
        obtain ⟨gl, rfl, hgl, hglw, hroom, hmost, _, _⟩ := hown.at2 0 hl0
        have HROW := Lib.hid hown.rowAt
        have HBC := Lib.hid hbc
        have HYS := Lib.hid hys
        have k0 := cell_below hbc c0
        have k1 := cell_below hbc c1
        have kr := cell_below hbc cr
        have kf := frozen_below hbc cr fr
        clear hR htr hys hown hbc c0 c1 cr fr cr1 hca
        obtain ⟨m, hm⟩ : ∃ m, ys.length = m := ⟨_, rfl⟩
        have HM := Lib.hid hm
        rw [hm] at hroom hl0 hyl2 ⊢
        clear hm
        go_upto_block 2 with fail
        go_cut [11] (fun s11 wx => s11 = .int .i64 ((M.dig R).length : Int) ∧ wx = wa)
        case first =>
          go_wp2_with fail
          go_loop [11] (fun i => FitRel ys i) (fun i => (intOf i).toNat)
          case atStart => exact ⟨m, rfl, by rw [HM.out]; exact Nat.le_refl _, fun j hj => M.el_ge (by rw [HM.out]; exact hj)⟩
          case round =>
            obtain ⟨k2, rfl, hk2, hz⟩ := hrel
            have HZ := Lib.hid hz
            rw [HM.out] at hk2
            clear hz
            by_cases hgo : 0 < k2 ∧ M.el ys (k2 - 1) = 0
            · obtain ⟨h0, he⟩ := hgo
              have hc := HROW.out.cell (k2 - 1) (by rw [HM.out]; omega)
              rw [he, Nat.zero_add] at hc
              have e1 : ((k2 : Int) - 1).toNat = k2 - 1 := by omega
              have HE := Lib.hid he
              have ecast : (k2 : Int) - 1 = ((k2 - 1 : Nat) : Int) := by omega
              have HEC := Lib.hid ecast
              clear he ecast
              go_wp2_with fail
              go_round
              case rel => exact ⟨k2 - 1, by rw [HEC.out], by rw [HM.out]; omega, fun j hj => by
                rcases Nat.lt_or_ge j k2 with h | h
                · rw [show j = k2 - 1 by omega]; exact HE.out
                · exact HZ.out j h⟩
              case measure => simp [intOf]; omega
            · have hst : (M.trimL ys).length = k2 := trimL_stop (by rw [HM.out]; exact hk2) HZ.out (by
                rcases Nat.eq_zero_or_pos k2 with h | h
                · exact .inl h
                · exact .inr (fun e => hgo ⟨h, e⟩))
              have hdl2 : (M.dig R).length = k2 := by rw [← HTR.out]; exact hst
              have HDL := Lib.hid hdl2
              have hfin : ∀ (P : Prop), (0 < k2 → (decide (M.el ys (k2 - 1) = 0) = false) → P) → (k2 = 0 → P) → P := fun P h1 h2 => by
                rcases Nat.eq_zero_or_pos k2 with h | h
                · exact h2 h
                · exact h1 h (decide_eq_false fun e => hgo ⟨h, e⟩)
              clear hst hgo hdl2
              refine hfin _ ?_ ?_
              · intro h0 hne
                have hc := HROW.out.cell (k2 - 1) (by rw [HM.out]; omega)
                rw [Nat.zero_add] at hc
                have e1 : ((k2 : Int) - 1).toNat = k2 - 1 := by omega
                have hne2 : (M.el ys (k2 - 1) == 0) = false := by rw [beq_eq_false_iff_ne]; exact of_decide_eq_false hne
                obtain ⟨z, hz⟩ : ∃ z, M.el ys (k2 - 1) = z := ⟨_, rfl⟩
                rw [hz] at hc hne2
                clear hne hfin hz
                go_wp2_with fail
                go_meet
                exact ⟨by rw [HDL.out], rfl⟩
              · intro h0
                subst h0
                clear hfin hk2 HZ
                go_wp2_with fail
                go_meet
                exact ⟨by rw [HDL.out]; rfl, rfl⟩
        case rest =>
          obtain ⟨rfl, hwc⟩ := hcut
          subst hwc
          have hdm : (M.dig R).length ≤ m := by rw [← HTR.out, ← HM.out]; exact M.trimL_len ys
          have hp8 : w.heap.size + 1 ≠ w7.heap.size := by omega
          go_upto_region 16 with fail
          have q1 := (cell_other (W := wc) (p := ⟨w7.heap.size, 0, none⟩) (a := ⟨w.heap.size + 1, 0, none⟩) (.slice (some ⟨gl, 0, none⟩) (M.dig R).length cap') hp8).trans k1
          have q8 := World.cell?_setCell_same _ _ (.slice (some ⟨gl, 0, none⟩) (M.dig R).length cap') kr
          have qf : (wc.setCell ⟨w7.heap.size, 0, none⟩ (.slice (some ⟨gl, 0, none⟩) (M.dig R).length cap')).frozen? ⟨w7.heap.size, 0, none⟩ = false := (World.frozen?_setCell _ _ _ _).trans kf
          have HB14 := Lib.hid ((HST.out.below.trans (HBC.out.mono HST.out.below.size)).setCell (p := ⟨w7.heap.size, 0, none⟩) (Nat.le_of_lt HS7.out) (.slice (some ⟨gl, 0, none⟩) (M.dig R).length cap'))
          have HO14 := Lib.hid ((HST.out.own.below HBC.out).other (p := ⟨w7.heap.size, 0, none⟩) (.slice (some ⟨gl, 0, none⟩) (M.dig R).length cap') (by simp [Value.ownBlock]; omega))
          have HR14 := Lib.hid (show Row (wc.setCell ⟨w7.heap.size, 0, none⟩ (.slice (some ⟨gl, 0, none⟩) (M.dig R).length cap')) (some ⟨gl, 0, none⟩) (M.dig R) cap' from by
            have h := HROW.out.take (M.dig R).length
            rw [show ys.take (M.dig R).length = M.dig R from by rw [← HTR.out]; exact M.trimL_take ys] at h
            exact h.storedAt kr _)
          have HQF := Lib.hid qf
          have HP14 := Lib.hid q8
          generalize (wc.setCell ⟨w7.heap.size, 0, none⟩ (.slice (some ⟨gl, 0, none⟩) (M.dig R).length cap')) = w14 at *
          have h814 := lt_of_cell q8
          clear k0 k1 kr kf qf
          go_wp2_with fail
          refine (rcmp_any (some ⟨gl, 0, none⟩) b cap' cb R y _ HR14.out (HBR6.out.below HB14.out)).mono ?_
          rintro e w15 ⟨rfl, hb15⟩
          have p1 := cell_below hb15 q1
          have p8 := cell_below hb15 q8
          have HB15 := Lib.hid hb15
          clear q1 q8 hb15
          obtain ⟨Q, hQ⟩ : ∃ Q, R / y = Q := ⟨_, rfl⟩
          have hQ1 : Q < 16777216 := by
            have := (M.div_step (X := M.xs x j) (X' := M.xs x (j + 1)) (y := y) (d := d.toNat) hy (by omega) (by rw [M.xs_step hj, HD.out])).2.2
            rw [HR.out, HRR.out, hQ] at this
            exact this
          have HQ := Lib.hid hQ
          clear hQ
          go_upto_if 75 with fail
          go_cut [13] (fun s13 wx => ∃ h : Nat, s13 = .int .i64 (h : Int) ∧ Q ≤ h ∧ h ≤ 16777215 ∧ wx = w15)
          case first =>
            by_cases hRy : R < y
            · have hcm : Lib.compareInt (R : Int) (y : Int) < 0 := by rw [compare_lt (by omega)]; omega
              have hq0 : Q = 0 := by rw [← HQ.out]; exact Nat.div_eq_of_lt hRy
              go_wp2_with fail
              go_meet
              exact ⟨0, rfl, by omega, by omega, rfl⟩
            · have hcm : ¬ Lib.compareInt (R : Int) (y : Int) < 0 := by
                rcases Nat.lt_or_ge y R with h | h
                · rw [compare_gt (by omega)]; omega
                · rw [compare_eq (by omega)]; omega
              go_wp2_with fail
              go_meet
              exact ⟨16777215, rfl, by omega, by omega, rfl⟩
          case rest =>
            obtain ⟨hi, rfl, hhi, hhi2, hw⟩ := hcut
            subst hw
            obtain ⟨w17, hw17⟩ : ∃ w17 : World, w17 = wc := ⟨_, rfl⟩
            subst hw17
            have HPC := Lib.hid (And.intro p1 p8)
            have HR17 := Lib.hid (HR14.out.below HB15.out)
            have HY17 := Lib.hid (HBR6.out.below (HB14.out.trans (HB15.out.mono HB14.out.size)))
            have hs17 := HB15.out.size
            clear p1 p8
            go_wp2_with fail
            go_loopw [12, 13] (fun lo h wq => ∃ l u : Nat, lo = .int .i64 (l : Int) ∧ h = .int .i64 (u : Int) ∧ l ≤ Q ∧ Q ≤ u ∧ u ≤ 16777215 ∧ Below w17.heap.size w17 wq) (fun lo h _ => (intOf h - intOf lo).toNat)
            case atStart => exact ⟨0, hi, rfl, rfl, Nat.zero_le _, hhi, hhi2, Below.refl _ _⟩
            case round =>
              obtain ⟨l, u, rfl, rfl, hl, hu, hu2, hbq⟩ := hrel
              rename World => wq
              have p1 := cell_below hbq HPC.out.1
              have p8 := cell_below hbq HPC.out.2
              have hsq := hbq.size
              have HBQ := Lib.hid hbq
              clear hbq
              by_cases hlu : l < u
              · obtain ⟨mid, hmid⟩ : ∃ mid : Nat, ((l : Int) + (u : Int) + 1) / 2 = (mid : Int) := ⟨(l + u + 1) / 2, by omega⟩
                have hm1 : l < mid := by omega
                have hm2 : mid ≤ u := by omega
                go_upto_region 20 with fail
                rw [hmid]
                clear hmid
                go_cut [89] (fun s89 wx => s89 = .bool (decide (mid ≤ Q)) ∧ Below wq.heap.size wq wx)
                case first =>
                  have HYQ : Row wq.drew b (M.dig y) cb := (HY17.out.below HBQ.out).drewN 1
                  have hbd : Below wq.heap.size wq wq.drew := belowN (Below.refl _ wq) 1
                  have HRQ := Lib.hid (HR17.out.below HBQ.out)
                  have hdec : decide (Lib.compareInt ((y * mid : Nat) : Int) (R : Int) ≤ 0) = decide (mid ≤ Q) := by
                    have h1 : mid ≤ Q ↔ y * mid ≤ R := by rw [← HQ.out, Nat.le_div_iff_mul_le hy, Nat.mul_comm]
                    rcases Nat.lt_trichotomy (y * mid) R with h | h | h
                    · rw [compare_lt (by omega), decide_eq_true (h1.2 (by omega))]; rfl
                    · rw [compare_eq (by omega), decide_eq_true (h1.2 (by omega))]; rfl
                    · rw [compare_gt (by omega), decide_eq_false (p := mid ≤ Q) (fun h2 => by have := h1.1 h2; omega)]; rfl
                  have HDEC := Lib.hid hdec
                  clear hdec
                  go_region_law (first
                    | (go_simp; go_at_call 100; (with_reducible refine (rtimes_any b cb y mid _ (by omega) (by omega) HYQ).mono ?_); rintro e wt ⟨⟨g9, cap9, rfl, hrow9⟩, hb9'⟩; have hb9 := hbd.trans hb9'; have p8t := cell_below hb9 p8; have hrt := HRQ.out.below hb9; go_simp)
                    | (go_simp; go_at_call 69; (with_reducible refine (rcmp_any (some ⟨g9, 0, none⟩) (some ⟨gl, 0, none⟩) cap9 cap' (y * mid) R _ hrow9 hrt).mono ?_); rintro e wu ⟨rfl, hb10⟩; go_simp))
                  all_goals (
                    have hbf := hb9.trans (hb10.mono hb9.size)
                    go_wp2_with fail
                    go_meet
                    exact ⟨by rw [← HDEC.out, Int.natCast_mul], hbf⟩)
                case rest =>
                  obtain ⟨rfl, hbz⟩ := hcut
                  have HBZ := Lib.hid (HBQ.out.trans (hbz.mono HBQ.out.size))
                  clear hbz p1 p8
                  by_cases hmq : mid ≤ Q
                  · have hmd : decide (mid ≤ Q) = true := decide_eq_true hmq
                    rw [hmd]
                    go_wp2_with fail
                    go_roundw
                    case rel => exact ⟨mid, u, rfl, rfl, hmq, hu, hu2, HBZ.out⟩
                    case measure => simp [intOf]; omega
                  · have hmd : decide (mid ≤ Q) = false := decide_eq_false hmq
                    rw [hmd]
                    go_wp2_with fail
                    go_roundw
                    case rel => exact ⟨l, mid - 1, rfl, by go_num, hl, by omega, by omega, HBZ.out⟩
                    case measure => simp [intOf]; omega
              · have hlQ : l = Q := by omega
                have hjz : j < zs.length := by rw [HST.out.len]; exact hj
                have HOQ := Lib.hid (HO14.out.below (HB15.out.trans (HBQ.out.mono HB15.out.size)))
                obtain ⟨_, e', _, hgw, _, _, hcz, hfz⟩ := HOQ.out.at2 j hjz
                cases e'
                subst hlQ
                have hdv := M.div_step (X := M.xs x j) (X' := M.xs x (j + 1)) (y := y) (d := d.toNat) hy (by omega) (by rw [M.xs_step hj, HD.out])
                rw [HR.out, HRR.out, HQ.out] at hdv
                have hmle : y * l ≤ R := by rw [← HQ.out]; exact Nat.mul_div_le R y
                have hmod : R - y * l = M.xs x j % y := by
                  rw [hdv.2.1, ← HQ.out]
                  have := Nat.div_add_mod R y
                  omega
                have HMOD := Lib.hid hmod
                have HDV := Lib.hid hdv.1
                have hwq : Below w6.heap.size w6 wq := HB14.out.trans ((HB15.out.trans (HBQ.out.mono HB15.out.size)).mono HB14.out.size)
                have hgr : w6.heap.size < wr.heap.size := Nat.lt_trans HS7.out (lt_of_cell HST.out.cell)
                have hp6 : w.heap.size + 1 ≠ w6.heap.size := by omega
                have f17 := frozen_below HB15.out (show w14.cell? ⟨w7.heap.size, 0, none⟩ = some (.slice (some ⟨gl, 0, none⟩) (M.dig R).length cap') from HP14.out) HQF.out
                have fq := frozen_below HBQ.out HPC.out.2 f17
                have s1 := (cell_other (W := wq) (p := ⟨w6.heap.size, j, none⟩) (a := ⟨w.heap.size + 1, 0, none⟩) (.int .i64 (l : Int)) hp6).trans p1
                have s8 := (cell_other (W := wq) (p := ⟨w6.heap.size, j, none⟩) (a := ⟨w7.heap.size, 0, none⟩) (.int .i64 (l : Int)) (Nat.ne_of_gt HS7.out)).trans p8
                have sf : (wq.setCell ⟨w6.heap.size, j, none⟩ (.int .i64 (l : Int))).frozen? ⟨w7.heap.size, 0, none⟩ = false := (World.frozen?_setCell _ _ _ _).trans fq
                have HB23 := Lib.hid (hwq.setCell (p := ⟨w6.heap.size, j, none⟩) (Nat.le_refl _) (.int .i64 (l : Int)))
                have HO23 := Lib.hid (HOQ.out.setL j (l : Int))
                have HR23 := Lib.hid ((HR17.out.below HBQ.out).setFresh (B := wr.heap.size) (fun b off e _ => by cases e; exact hgl) (p := ⟨w6.heap.size, j, none⟩) hgr (.int .i64 (l : Int)))
                go_upto_region 24 with fail
                generalize (wq.setCell ⟨w6.heap.size, j, none⟩ (.int .i64 (l : Int))) = w23 at *
                have HY23 : Row w23.drew b (M.dig y) cb := (HBR6.out.below HB23.out).drewN 1
                have hbd : Below w23.heap.size w23 w23.drew := belowN (Below.refl _ w23) 1
                have SF := Lib.hid sf
                have SC := Lib.hid s8
                clear hmod hdv hcz hfz f17 fq p1 p8 sf hmle hwq hgw
                have HML := Lib.hid (show y * l ≤ R by rw [← HQ.out]; exact Nat.mul_div_le R y)
                go_region_law (first
                  | (go_simp; go_at_call 100; (with_reducible refine (rtimes_any b cb y l _ (by omega) (by omega) HY23).mono ?_); rintro e wt ⟨⟨g9, cap9, rfl, hrow9⟩, hb9'⟩; have hb9 := hbd.trans hb9'; have p8t := cell_below hb9 s8; have hrt := HR23.out.below hb9; go_simp)
                  | (go_simp; go_at_call 101; (with_reducible refine (rless_any (some ⟨gl, 0, none⟩) (some ⟨g9, 0, none⟩) cap' cap9 R (y * l) _ (by omega) HML.out hrt (fun h => nomatch h) hrow9).mono ?_); rintro e wu ⟨⟨a3, c3, rfl, hr3, hn3, hf3⟩, hb10⟩; have p8u := cell_below hb10 p8t; have f8u := frozen_below hb10 p8t (frozen_below hb9 s8 SF.out); go_simp))
                all_goals (
                  have HBF := Lib.hid (hb9.trans (hb10.mono hb9.size))
                  have HR3 := Lib.hid hr3
                  have HF3 := Lib.hid hf3
                  have hszt := hb9.size
                  have h8u : w7.heap.size < w23.heap.size := lt_of_cell s8
                  clear hb9 hb10 hb9' hbd hr3 hf3 hrt hrow9 p8t
                  go_wp2_with fail
                  go_roundw
                  case rel =>
                    have e := HMOD.out
                    have h6 := HB23.out.size
                    refine ⟨j, zs.set j (l : Int), a3, c3, rfl, by omega, by rw [List.length_set]; exact HST.out.len, HST.out.lim.set j (by omega) (by omega), ?_, ?_, ?_, (World.frozen?_setCell _ _ _ _).trans f8u, ?_, ?_, hn3, ?_, HST.out.bnd⟩
                    · rw [M.q_step _ hjz, HST.out.quo, HDV.out]
                      generalize M.xs x (j + 1) / y = t
                      omega
                    · exact (HO23.out.below HBF.out).other (p := ⟨w7.heap.size, 0, none⟩) _ (by simp [Value.ownBlock]; omega)
                    · rw [← e]; exact World.cell?_setCell_same _ _ _ p8u
                    · rw [← e]; exact HR3.out.setFresh HF3.out (p := ⟨w7.heap.size, 0, none⟩) (by show w7.heap.size < _; omega) _
                    · rw [← e]; exact fun b off h hl => Nat.le_trans (by omega) (HF3.out b off h hl)
                    · exact (HB23.out.trans (HBF.out.mono HB23.out.size)).setCell (p := ⟨w7.heap.size, 0, none⟩) (Nat.le_of_lt HS7.out) _
                  case measure => (simp [intOf]; try omega))
end Go.Proofs.YtfaggdjoogpmmaaDoor

namespace Go.Proofs.YtfaggdjoogpmmaaDoor
open Go Go.RowKit Go.Shelf

theorem run_append_nil {P : Program} {w : World} (base : Nat) (t ty e : TypeId) (i : TypeInfo) (size : Nat) (ht : P.underlying t = some (.slice e)) (hi : P.info? e = some i)
    (v : Value) (n : Nat) (xs : List Value) (c : Nat) (hown : w.ownsRow base e size v n xs) :
    (Builtin.append_ #[t, t] ty #[v, .slice none 0 c]).run P w = .ok v w := by
  rcases hown.2 with ⟨rfl, rfl⟩ | ⟨g, cap, cur, rfl, _, _, hnc, _⟩
  · simp [Builtin.append_, run_underlying ht, sizeOf, typeInfo, hi, Builtin.lenOf, Builtin.firstCells]
  · simp [Builtin.append_, run_underlying ht, sizeOf, typeInfo, hi, Builtin.lenOf, Builtin.firstCells, hnc, storeCells]

theorem wp_appAny {W : World} {o : Oper} {a : Act} {K : Act → World → Prop} {Q : Exit → Act → World → Prop} (s x : Operand) (ho : o.op = .call { callee := .builtin .append, args := #[s, x], argTypes := #[22, 22] })
    {B : Nat} {v : Value} {zs ys : List Int} (hs : a.eval s = v) (hown : Own W B v zs) {ad : Option Addr} {cap : Nat} (hx : a.eval x = .slice ad ys.length cap) (hr : Row W ad ys cap)
    (hl : zs.length + ys.length < 1000000) (hbase : B ≤ W.heap.size)
    (h : ∀ a' cap' W', Own W' B (.slice a' (zs ++ ys).length cap') (zs ++ ys) → Below B W W' → K (a.put o.dst (.slice a' (zs.length + ys.length) cap')) W') : Oper.wp Tryd.prog o a W K Q := by
  cases ad with
  | none =>
    obtain ⟨i0, hi, hz0, hz1, hz2⟩ := info_parts info_int
    have hy : ys = [] := by
      cases ys with
      | nil => rfl
      | cons y ys =>
        obtain ⟨b, off, e, _⟩ := hr.el 0 (by simp)
        cases e
    subst hy
    have hrun := run_append_nil (P := Tryd.prog) B 22 o.type 3 i0 1 Tryd.underlying22 hi v zs.length (zs.map (Value.int .i64)) cap hown
    obtain ⟨a', cap', rfl, _⟩ := hown.row
    unfold Oper.wp execOp
    simp only [ho, resolve, invoke, builtin, Sem.run_bind, Sem.run_pure, Result.andThen_ok, List.map_toArray, List.map_cons, List.map_nil, hs, hx, List.length_nil, hrun]
    have := h a' cap' W (by simpa using hown) (Below.refl _ _)
    exact (show K (a.put o.dst (.slice a' zs.length cap')) W by simpa using this)
  | some p => exact wp_appRow s x ho hs hown hx hr (fun e => nomatch e) hl hbase h

theorem wpList_appAny {W : World} {ops : Array Oper} {rest : List Oper} {o : Oper} {a : Act} {Q : Exit → Act → World → Prop} (hgd : o.guard = none) (s x : Operand)
    (ho : o.op = .call { callee := .builtin .append, args := #[s, x], argTypes := #[22, 22] }) {B : Nat} {v : Value} {zs ys : List Int} (hs : a.eval s = v) (hown : Own W B v zs)
    {ad : Option Addr} {cap : Nat} (hx : a.eval x = .slice ad ys.length cap) (hr : Row W ad ys cap) (hl : zs.length + ys.length < 1000000) (hbase : B ≤ W.heap.size)
    (h : ∀ a' cap' W', Own W' B (.slice a' (zs ++ ys).length cap') (zs ++ ys) → Below B W W' → wpList Tryd.prog ops Q rest (a.put o.dst (.slice a' (zs.length + ys.length) cap')) W') : wpList Tryd.prog ops Q (o :: rest) a W :=
  wpList_plain hgd fun _ hK => wp_appAny s x ho hs hown hx hr hl hbase fun a' c' W' h1 h2 => hK _ _ (h a' c' W' h1 h2)
end Go.Proofs.YtfaggdjoogpmmaaDoor

namespace Go.Proofs.YtfaggdjoogpmmaaDoor
open Go Go.RowKit Go.Shelf

/-- The number in a variable. -/
def cellNum (W : World) (p : Addr) : Nat := match W.cell? p with | some v => numAt W v | none => 0
theorem cellNum_row {W : World} {p : Addr} {a : Option Addr} {c v : Nat} (hc : W.cell? p = some (.slice a (M.dig v).length c)) (h : Row W a (M.dig v) c) : cellNum W p = v := by
  unfold cellNum; rw [hc]; exact numAt_row h

structure RgSt (w : World) (x y u v : Nat) (a b : Option Addr) (ca cb : Nat) (W : World) : Prop where
  ca0 : W.cell? ⟨w.heap.size, 0, none⟩ = some (.slice a (M.dig u).length ca)
  fa0 : W.frozen? ⟨w.heap.size, 0, none⟩ = false
  cb0 : W.cell? ⟨w.heap.size + 1, 0, none⟩ = some (.slice b (M.dig v).length cb)
  fb0 : W.frozen? ⟨w.heap.size + 1, 0, none⟩ = false
  cr0 : W.cell? ⟨w.heap.size + 1 + 1, 0, none⟩ = some (.slice none 0 0)
  fr0 : W.frozen? ⟨w.heap.size + 1 + 1, 0, none⟩ = false
  ra : Row W a (M.dig u) ca
  rb : Row W b (M.dig v) cb
  la : (M.dig u).length ≤ 200
  lb : (M.dig v).length ≤ 200
  same : Nat.gcd u v = Nat.gcd x y
  below : Below w.heap.size w W

theorem RgSt.keep {w : World} {x y u v : Nat} {a b : Option Addr} {ca cb : Nat} {W W' : World} (h : RgSt w x y u v a b ca cb W) (hb : Below W.heap.size W W') : RgSt w x y u v a b ca cb W' :=
  ⟨cell_below hb h.ca0, frozen_below hb h.ca0 h.fa0, cell_below hb h.cb0, frozen_below hb h.cb0 h.fb0, cell_below hb h.cr0, frozen_below hb h.cr0 h.fr0, h.ra.below hb, h.rb.below hb, h.la, h.lb, h.same, h.below.trans (hb.mono h.below.size)⟩

/-- a, b = b, r -/
theorem RgSt.turn {w : World} {x y u v : Nat} {a b r : Option Addr} {ca cb cr : Nat} {W : World} (h : RgSt w x y u v a b ca cb W) (hr : Row W r (M.dig (u % v)) cr) :
    RgSt w x y v (u % v) b r cb cr ((W.setCell ⟨w.heap.size, 0, none⟩ (.slice b (M.dig v).length cb)).setCell ⟨w.heap.size + 1, 0, none⟩ (.slice r (M.dig (u % v)).length cr)) := by
  have h1 := (cell_other (W := W) (p := ⟨w.heap.size, 0, none⟩) (a := ⟨w.heap.size + 1, 0, none⟩) (.slice b (M.dig v).length cb) (show w.heap.size + 1 ≠ w.heap.size by omega)).trans h.cb0
  have h2 := (cell_other (W := W) (p := ⟨w.heap.size, 0, none⟩) (a := ⟨w.heap.size + 1 + 1, 0, none⟩) (.slice b (M.dig v).length cb) (show w.heap.size + 1 + 1 ≠ w.heap.size by omega)).trans h.cr0
  have h3 := World.cell?_setCell_same W ⟨w.heap.size, 0, none⟩ (.slice b (M.dig v).length cb) h.ca0
  refine ⟨(cell_other _ (show w.heap.size ≠ w.heap.size + 1 by omega)).trans h3, ?_, World.cell?_setCell_same _ _ _ h1, ?_, (cell_other _ (show w.heap.size + 1 + 1 ≠ w.heap.size + 1 by omega)).trans h2, ?_, (h.rb.storedAt h.ca0 _).storedAt h1 _, (hr.storedAt h.ca0 _).storedAt h1 _, h.lb, Nat.le_trans (dig_len_mod u v) h.la, ?_,
    (h.below.setCell (p := ⟨w.heap.size, 0, none⟩) (Nat.le_refl _) _).setCell (p := ⟨w.heap.size + 1, 0, none⟩) (by show _ ≤ w.heap.size + 1; omega) _⟩
  · rw [World.frozen?_setCell, World.frozen?_setCell]; exact h.fa0
  · rw [World.frozen?_setCell, World.frozen?_setCell]; exact h.fb0
  · rw [World.frozen?_setCell, World.frozen?_setCell]; exact h.fr0
  · rw [← h.same, Nat.gcd_comm v, ← Nat.gcd_rec, Nat.gcd_comm]

def RgRel (w : World) (x y : Nat) (W : World) : Prop := ∃ (u v : Nat) (a b : Option Addr) (ca cb : Nat), RgSt w x y u v a b ca cb W

set_option maxRecDepth 100000 in
set_option maxHeartbeats 1000000 in
/-- **ref01.Gcd** -/
theorem rgcd_any (a b : Option Addr) (ca cb x y : Nat) (w : World) (hx200 : (M.dig x).length ≤ 200) (hy200 : (M.dig y).length ≤ 200) (hA : Row w a (M.dig x) ca) (hB : Row w b (M.dig y) cb) :
    Calls Tryd.prog 65 #[.agg #[.slice a (M.dig x).length ca], .agg #[.slice b (M.dig y).length cb]] w fun e W' => (∃ v, e = .returned (.tuple #[v, .int .i64 0]) ∧ Num W' v (Nat.gcd x y)) ∧ Below w.heap.size w W' := by
  have Hvx := Lib.hid (vld_dig hx200)
  have Hvy := Lib.hid (vld_dig hy200)
  have hb3 := boxes_below w (.slice a (M.dig x).length ca) (.slice b (M.dig y).length cb)
  have hs3 := boxes_size w (.slice a (M.dig x).length ca) (.slice b (M.dig y).length cb)
  obtain ⟨c0, c1, c2, f2⟩ := boxes_cells w (.slice a (M.dig x).length ca) (.slice b (M.dig y).length cb)
  have f1 : (boxes w (.slice a (M.dig x).length ca) (.slice b (M.dig y).length cb)).frozen? ⟨w.heap.size + 1, 0, none⟩ = false := by
    have h := cell_new (w.alloc (.cells #[.slice a (M.dig x).length ca] 24)) (.slice b (M.dig y).length cb) 24
    have h2 := frozen_new (w.alloc (.cells #[.slice a (M.dig x).length ca] 24)) (.slice b (M.dig y).length cb) 24
    rw [World.size_alloc] at h h2
    exact frozen_later _ h h2
  have f0 : (boxes w (.slice a (M.dig x).length ca) (.slice b (M.dig y).length cb)).frozen? ⟨w.heap.size, 0, none⟩ = false :=
    frozen_later _ (cell_later _ (cell_new _ _ _)) (frozen_later _ (cell_new _ _ _) (frozen_new _ _ _))
  have hst : RgSt w x y x y a b ca cb (boxes w (.slice a (M.dig x).length ca) (.slice b (M.dig y).length cb)) := ⟨c0, f0, c1, f1, c2, f2, hA.below hb3, hB.below hb3, hx200, hy200, rfl, hb3⟩
  have HST := Lib.hid hst
  clear hA hB hb3 hst c2 f2 f0 f1
  go_enter Tryd.func65, Tryd.ntmps65
  go_wp2_with fail
  generalize hw3 : (((w.alloc (.cells #[.slice a (M.dig x).length ca] 24)).alloc (.cells #[.slice b (M.dig y).length cb] 24)).alloc (.cells #[.slice none 0 0] 24)) = w3
  obtain rfl : boxes w (.slice a (M.dig x).length ca) (.slice b (M.dig y).length cb) = w3 := hw3
  generalize boxes w (.slice a (M.dig x).length ca) (.slice b (M.dig y).length cb) = w3 at *
  refine (rvalid_yes a _ ca _ HST.out.ra Hvx.out).mono ?_
  rintro e w5 ⟨rfl, hb5⟩
  have HS5 := Lib.hid (HST.out.keep hb5)
  have d0 := HS5.out.ca0
  have d1 := HS5.out.cb0
  clear hb5 c0 c1 HST hs3
  go_wp2_with fail
  refine (rvalid_yes b _ cb _ HS5.out.rb Hvy.out).mono ?_
  rintro e w6 ⟨rfl, hb6⟩
  have HS6 := Lib.hid (HS5.out.keep hb6)
  clear hb6 d0 d1 HS5
  go_wp2_with fail
  go_loopw [6] (fun _ wr => RgRel w x y wr) (fun _ wr => cellNum wr ⟨w.heap.size + 1, 0, none⟩)
  case atStart => exact ⟨x, y, a, b, ca, cb, HS6.out⟩
  case round =>
    clear HS6
    obtain ⟨u, v, a, b, ca, cb, hst⟩ := hrel
    have HST := Lib.hid hst
    have c0 := hst.ca0
    have c1 := hst.cb0
    clear hst
    by_cases hv0 : v = 0
    · subst hv0
      have hg0 := HST.out.same
      rw [Nat.gcd_zero_right] at hg0
      have HG0 := Lib.hid hg0
      have hul := HST.out.la
      clear hg0
      rw [M.dig_zero] at c1
      have c2 := HST.out.cr0
      have f2 := HST.out.fr0
      go_wp2_with (at_builtin; refine wpList_appAny rfl _ _ rfl rfl (Own.nil _ wr.heap.size) rfl HST.out.ra (by simp; omega) (Nat.le_refl _) ?_; intro a' cap' W' hown' hb'; have k2 := cell_below hb' c2; have l2 := frozen_below hb' c2 f2)
      rw [List.nil_append] at hown'
      refine bodyPost_ret (v := .tuple #[.agg #[.slice a' (M.dig u).length cap'], .int .i64 0]) (by simp [results, Tryd.results65, go_sem, k2]) rfl ⟨⟨_, rfl, a', cap', by rw [HG0.out], ?_⟩, ?_⟩
      · rw [← HG0.out]
        exact hown'.rowAt.storedAt k2 _
      · exact ((HST.out.below.trans (hb'.mono HST.out.below.size))).setCell (p := ⟨w.heap.size + 1 + 1, 0, none⟩) (by show _ ≤ w.heap.size + 1 + 1; omega) _
    · have hvp : 0 < v := by omega
      have hvl : 0 < (M.dig v).length := by
        rcases Nat.eq_zero_or_pos (M.dig v).length with h | h
        · exact absurd (M.dig_nil.1 (List.length_eq_zero_iff.1 h)) hv0
        · exact h
      go_wp2_with fail
      refine (rdiv_pos a b ca cb u v wr hvp HST.out.la HST.out.lb HST.out.ra HST.out.rb).mono ?_
      rintro e w2 ⟨⟨a1, c1', a2, c2', rfl, _, hr2, _, _⟩, hb2⟩
      have HS2 := Lib.hid ((HST.out.keep hb2).keep (((Below.refl _ w2).alloc (Nat.le_refl _) (.cells #[.slice a1 (M.dig (u / v)).length c1'] 24)).alloc (by simp) (.cells #[.slice a2 (M.dig (u % v)).length c2'] 24)))
      have HR2 := Lib.hid ((hr2.alloc (.cells #[.slice a1 (M.dig (u / v)).length c1'] 24)).alloc (.cells #[.slice a2 (M.dig (u % v)).length c2'] 24))
      have c7 := cell_new (w2.alloc (.cells #[.slice a1 (M.dig (u / v)).length c1'] 24)) (.slice a2 (M.dig (u % v)).length c2') 24
      rw [World.size_alloc] at c7
      have hsz : w.heap.size + 1 < w2.heap.size := Nat.lt_of_lt_of_le (show w.heap.size + 1 < wr.heap.size from lt_of_cell c1) hb2.size
      have n1 : ¬ w2.heap.size + 1 = w.heap.size := by omega
      have n2 : ¬ w2.heap.size + 1 = w.heap.size + 1 := by omega
      have n3 : ¬ w.heap.size = w2.heap.size + 1 := by omega
      have n4 : ¬ w.heap.size + 1 = w2.heap.size + 1 := by omega
      clear hr2 hb2 c0 c1
      go_upto_region 5 with fail
      generalize ((w2.alloc (.cells #[.slice a1 (M.dig (u / v)).length c1'] 24)).alloc (.cells #[.slice a2 (M.dig (u % v)).length c2'] 24)) = w4 at *
      have c0 := HS2.out.ca0
      have f0 := HS2.out.fa0
      have c1 := HS2.out.cb0
      have f1 := HS2.out.fb0
      have d7 := (cell_other (W := w4) (p := ⟨w.heap.size, 0, none⟩) (a := ⟨w2.heap.size + 1, 0, none⟩) (.slice b (M.dig v).length cb) (show w2.heap.size + 1 ≠ w.heap.size by omega)).trans c7
      go_region
      all_goals (
        have HS9 := Lib.hid (show RgSt w x y v (u % v) b a2 cb c2' (World.drew _) from (HS2.out.turn HR2.out).keep (belowN (Below.refl _ _) 1))
        clear c7 d7 c0 c1 f0 f1
        go_wp2_with fail
        go_roundw
        case rel => exact ⟨v, u % v, b, a2, cb, c2', HS9.out⟩
        case measure =>
          rw [cellNum_row HS9.out.cb0 HS9.out.rb, cellNum_row HST.out.cb0 HST.out.rb]
          exact Nat.mod_lt u hvp)
end Go.Proofs.YtfaggdjoogpmmaaDoor

namespace Go.Proofs.YtfaggdjoogpmmaaDoor
open Go Go.RowKit Go.Shelf
attribute [local go_sem] mask24

/-- What holds in Of when m is still to be taken apart. -/
def OfRel (w : World) (N : Nat) (t v : Value) (wr : World) : Prop :=
  ∃ (m : Nat) (pre : List Int), t = .int .i64 (m : Int) ∧ m ≤ N ∧ Own wr (w.heap.size + 1) v pre ∧ M.dig N = pre ++ M.dig m ∧ wr.cell? ⟨w.heap.size, 0, none⟩ = some (.slice none 0 0) ∧ wr.frozen? ⟨w.heap.size, 0, none⟩ = false ∧ Below w.heap.size w wr

set_option maxRecDepth 100000 in
set_option maxHeartbeats 1000000 in
theorem of_any (N : Nat) (w : World) (hN : N ≤ 9223372036854775807) :
    Calls Tryd.prog 31 #[.int .i64 (N : Int)] w fun e W' => ∃ v, e = .returned (.tuple #[v, .int .i64 0]) ∧ Num W' v N ∧ Below w.heap.size w W' := by
  have HL := Lib.hid (M.dig_len_le.2 (Nat.lt_of_le_of_lt hN (by decide)) : (M.dig N).length ≤ 3)
  have c0 := cell_of_new w (.slice none 0 0) 24
  go_enter Tryd.func31, Tryd.ntmps31
  go_wp2
  go_loopw [0, 4] (fun t v wr => OfRel w N t v wr) (fun t _ _ => (intOf t).toNat)
  case atStart => exact ⟨N, [], rfl, Nat.le_refl _, Own.nil _ _, rfl, c0.1, c0.2, (Below.refl _ w).alloc (Nat.le_refl _) _⟩
  case round =>
    obtain ⟨m, pre, rfl, hm, hown, hdig, hc0, hf0, hB⟩ := hrel
    obtain ⟨a, cap, rfl, hr⟩ := hown.row
    have HR := Lib.hid hr
    clear hr
    have HD := Lib.hid hdig
    clear hdig
    by_cases h0 : m = 0
    · subst h0
      have HE := Lib.hid (show M.dig N = pre by rw [HD.out, M.dig_zero, List.append_nil])
      go_wp2
      refine bodyPost_ret (v := .tuple #[.agg #[.slice a pre.length cap], .int .i64 0]) (by simp [results, Tryd.results31, go_sem, hc0]) rfl ⟨.agg #[.slice a pre.length cap], rfl, ?_, hB.setCell (p := ⟨w.heap.size, 0, none⟩) (Nat.le_refl _) _⟩
      refine Own.num (B := w.heap.size + 1) ?_
      rw [HE.out]
      exact hown.setBelow (Nat.lt_succ_self _) _
    · have hm1 : 0 < m := by omega
      clear h0
      have hpre : pre.length < 1000000 := by have := HL.out; rw [HD.out, List.length_append] at this; omega
      have hsz := hB.size
      go_wp2_with (at_builtin; refine wpList_app1 rfl _ _ rfl rfl (hown.alloc _) rfl (cell_new _ _ _) hpre (by simp; omega) ?_; intro a' cap' W' hown' hb')
      go_roundw
      case rel =>
        refine ⟨m / 16777216, pre ++ [((m % 16777216 : Nat) : Int)], by go_num, by omega, by simpa using hown', by rw [HD.out, M.dig_pos (by omega), List.append_assoc]; rfl, (hb'.cell (p := ⟨w.heap.size, 0, none⟩) (by simp)).trans (cell_later _ hc0), (hb'.frozen (p := ⟨w.heap.size, 0, none⟩) (by simp)).trans (frozen_later _ hc0 hf0), hB.trans (((Below.refl _ wr).alloc hsz _).trans (hb'.mono (by omega)))⟩
      case measure => simp [intOf]; omega
end Go.Proofs.YtfaggdjoogpmmaaDoor
