/- ratio.Valid and the reference's Valid of any two lists of limbs. -/
import Derived.Test.YtfaggdjoogpmmaaDoorB10
import Derived.Test.YtfaggdjoogpmmaaDoorBBadRat
import Derived.Test.YtfaggdjoogpmmaaDoorBMakeAll
import Derived.Test.YtfaggdjoogpmmaaDoorBRefPow
namespace Go.Proofs.YtfaggdjoogpmmaaDoor
open Go Go.RowKit Go.Shelf

/-- A fraction in lowest terms. -/
def RVd (zs ys : List Int) : Prop := Vld zs ∧ Vld ys ∧ ys ≠ [] ∧ Nat.gcd (M.val zs).toNat (M.val ys).toNat = 1
theorem RVd.nums {zs ys : List Int} (h : RVd zs ys) : ∃ x y : Nat, zs = M.dig x ∧ ys = M.dig y ∧ (M.dig x).length ≤ 200 ∧ (M.dig y).length ≤ 200 ∧ 0 < y ∧ Nat.gcd x y = 1 := by
  obtain ⟨h1, h2, h3, h4⟩ := h
  obtain ⟨x, rfl, hx⟩ := vld_num h1
  obtain ⟨y, rfl, hy⟩ := vld_num h2
  rw [M.val_dig, M.val_dig, Int.toNat_natCast, Int.toNat_natCast] at h4
  exact ⟨x, y, rfl, rfl, hx, hy, Nat.pos_of_ne_zero fun e => h3 (M.dig_nil.2 e), h4⟩
theorem RVd.of {x y : Nat} (hx : (M.dig x).length ≤ 200) (hy : (M.dig y).length ≤ 200) (h0 : 0 < y) (hg : Nat.gcd x y = 1) : RVd (M.dig x) (M.dig y) :=
  ⟨vld_dig hx, vld_dig hy, fun e => by have := M.dig_nil.1 e; omega, by rw [M.val_dig, M.val_dig, Int.toNat_natCast, Int.toNat_natCast]; exact hg⟩

set_option maxRecDepth 100000 in
set_option maxHeartbeats 1000000 in
theorem isOne_no (a : Option Addr) (ca g : Nat) (w : World) (hg : g ≠ 1) (hR : Row w a (M.dig g) ca) :
    Calls Tryd.prog 98 #[.agg #[.slice a (M.dig g).length ca]] w fun e W' => e = .returned (.bool false) ∧ Below w.heap.size w W' := by
  have HB := Lib.hid ((Below.refl _ w).alloc (Nat.le_refl _) (.cells #[.slice a (M.dig g).length ca] 24))
  have hro := hR.room
  have hmo := hR.most
  by_cases hl : (M.dig g).length = 1
  · obtain ⟨z, hz⟩ := List.length_eq_one_iff.1 hl
    have hz1 : z ≠ 1 := by
      intro e
      apply hg
      have h1 : M.dig 1 = [1] := by rw [M.dig_pos (by omega), show 1 / 16777216 = 0 from rfl, M.dig_zero]; rfl
      have := M.val_dig g
      rw [hz, e] at this
      simp [M.val] at this
      omega
    rw [hz] at hR hro ⊢
    obtain ⟨b, off, rfl, hc⟩ := hR.el 0 (by simp)
    have hc2 := cell_later (.cells #[.slice (some ⟨b, off, none⟩) [z].length ca] 24) hc
    simp only [M.el_zero, Nat.add_zero] at hc2
    simp only [List.length_singleton] at hro hc2 ⊢
    have hzb : (z == 1) = false := beq_eq_false_iff_ne.2 hz1
    clear hR hc hz hl
    go_enter Tryd.func98, Tryd.ntmps98
    go_wp2_with fail
    go_ret
    exact ⟨rfl, (Below.refl _ w).alloc (Nat.le_refl _) _⟩
  · obtain ⟨n, hn⟩ : ∃ n, (M.dig g).length = n := ⟨_, rfl⟩
    rw [hn] at hl hro HB ⊢
    have hnb : ((n : Int) == 1) = false := beq_eq_false_iff_ne.2 (by omega)
    have hn1 : ¬ (n : Int) = 1 := by omega
    clear hR hn
    go_enter Tryd.func98, Tryd.ntmps98
    go_wp2_with fail
    go_ret
    exact ⟨rfl, HB.out⟩

set_option maxRecDepth 100000 in
set_option maxHeartbeats 1000000 in
theorem ratValid_no (a b : Option Addr) (ca cb : Nat) (zs ys : List Int) (w : World) (hA : Row w a zs ca) (hB : Row w b ys cb) (h : ¬ RVd zs ys) :
    Calls Tryd.prog 59 #[.agg #[.slice a zs.length ca, .slice b ys.length cb]] w fun e W' => e = .returned (.bool false) ∧ Below w.heap.size w W' := by
  obtain ⟨⟨c0, _⟩, c1, _⟩ := two_cells w (.slice a zs.length ca) (.slice b ys.length cb) 58
  have hb := (Below.refl _ w).alloc (Nat.le_refl _) (.cells #[.slice a zs.length ca, .slice b ys.length cb] 58)
  have HA := Lib.hid (hA.below hb)
  have HB := Lib.hid (hB.below hb)
  have HBB := Lib.hid hb
  clear hA hB hb
  by_cases hv : Vld zs ∧ Vld ys
  · obtain ⟨x, rfl, hx⟩ := vld_num hv.1
    obtain ⟨y, rfl, hy⟩ := vld_num hv.2
    have H := Lib.hid h
    clear h hv
    go_enter Tryd.func59, Tryd.ntmps59
    go_wp2_with fail
    generalize (w.alloc (.cells #[.slice a (M.dig x).length ca, .slice b (M.dig y).length cb] 58)) = w1 at *
    refine (gcd_any a b ca cb x y w1 hx hy HA.out HB.out).mono ?_
    rintro e w2 ⟨⟨v, rfl, ag, cg, rfl, hrg⟩, hb2⟩
    have VG := Lib.hid (Var.new hrg)
    have d1 := cell_later (.cells #[.slice ag (M.dig (Nat.gcd x y)).length cg] 24) (cell_below hb2 c1)
    have HB2 := Lib.hid ((HBB.out.trans (hb2.mono HBB.out.size)).alloc (Nat.le_trans HBB.out.size hb2.size) (.cells #[.slice ag (M.dig (Nat.gcd x y)).length cg] 24))
    clear hrg hb2 c0 c1
    go_wp2_with fail
    refine (isZero_any b cb y _).mono ?_
    rintro e w3 ⟨rfl, hb3⟩
    have V3 := Lib.hid (VG.out.below hb3)
    have e3 := V3.out.cell
    have HB3 := Lib.hid (HB2.out.trans (hb3.mono HB2.out.size))
    clear hb3 d1
    by_cases hy0 : y = 0
    · rw [show (((M.dig y).length : Int) == 0) = true by rw [hy0, M.dig_zero]; rfl]
      go_wp2_with fail
      go_ret
      exact ⟨rfl, HB3.out⟩
    · rw [show (((M.dig y).length : Int) == 0) = false from beq_eq_false_iff_ne.2 (by
        intro e; exact hy0 (M.dig_nil.1 (List.length_eq_zero_iff.1 (by omega))))]
      go_wp2_with fail
      refine (isOne_no ag cg _ _ (fun e => H.out (RVd.of hx hy (by omega) e)) V3.out.row).mono ?_
      rintro e w4 ⟨rfl, hb4⟩
      go_wp2_with fail
      go_ret
      exact ⟨rfl, HB3.out.trans (hb4.mono HB3.out.size)⟩
  · go_enter Tryd.func59, Tryd.ntmps59
    go_wp2_with fail
    refine (gcd_bad a b ca cb zs ys _ HA.out HB.out hv).mono ?_
    rintro e w2 ⟨rfl, hb2⟩
    have HB2 := Lib.hid ((HBB.out.trans (hb2.mono HBB.out.size)).alloc (Nat.le_trans HBB.out.size hb2.size) (.cells #[.slice none 0 0] 24))
    clear hb2
    go_wp2_with fail
    go_ret
    exact ⟨rfl, HB2.out⟩

set_option maxRecDepth 100000 in
set_option maxHeartbeats 1000000 in
theorem rratValid_yes (a b : Option Addr) (ca cb : Nat) (zs ys : List Int) (w : World) (hA : Row w a zs ca) (hB : Row w b ys cb) (h : RVd zs ys) :
    Calls Tryd.prog 93 #[.agg #[.slice a zs.length ca, .slice b ys.length cb]] w fun e W' => e = .returned (.bool true) ∧ Below w.heap.size w W' := by
  obtain ⟨⟨c0, _⟩, c1, _⟩ := two_cells w (.slice a zs.length ca) (.slice b ys.length cb) 58
  have hb := (Below.refl _ w).alloc (Nat.le_refl _) (.cells #[.slice a zs.length ca, .slice b ys.length cb] 58)
  have HA := Lib.hid (hA.below hb)
  have HB := Lib.hid (hB.below hb)
  have HBB := Lib.hid hb
  have hmB := hB.most
  have hrB := hB.room
  clear hA hB hb
  obtain ⟨x, y, rfl, rfl, hx, hy, hy0, hg⟩ := h.nums
  have HV1 := Lib.hid h.1
  have HV2 := Lib.hid h.2.1
  have HG := Lib.hid hg
  clear h hg
  go_enter Tryd.func93, Tryd.ntmps93
  go_wp2_with fail
  generalize (w.alloc (.cells #[.slice a (M.dig x).length ca, .slice b (M.dig y).length cb] 58)) = w1 at *
  refine (rvalid_yes a _ ca _ HA.out HV1.out).mono ?_
  rintro e w2 ⟨rfl, hb2⟩
  have d0 := cell_below hb2 c0
  have d1 := cell_below hb2 c1
  replace HA := Lib.hid (HA.out.below hb2)
  replace HB := Lib.hid (HB.out.below hb2)
  replace HBB := Lib.hid (HBB.out.trans (hb2.mono HBB.out.size))
  clear hb2 c0 c1
  go_wp2_with fail
  refine (rvalid_yes b _ cb _ HB.out HV2.out).mono ?_
  rintro e w3 ⟨rfl, hb3⟩
  replace d0 := cell_below hb3 d0
  replace d1 := cell_below hb3 d1
  replace HA := Lib.hid (HA.out.below hb3)
  replace HB := Lib.hid (HB.out.below hb3)
  replace HBB := Lib.hid (HBB.out.trans (hb3.mono HBB.out.size))
  clear hb3
  have hyl : ¬ M.dig y = [] := fun e => by have := M.dig_nil.1 e; omega
  have hyb : (((M.dig y).length : Int) == 0) = false := beq_eq_false_iff_ne.2 (by intro e; exact hyl (List.length_eq_zero_iff.1 (by omega)))
  go_wp2_with fail
  clear hyl hyb
  refine (rgcd_any a b ca cb x y _ hx hy HA.out HB.out).mono ?_
  rintro e w4 ⟨⟨v, rfl, ag, cg, rfl, hrg⟩, hb4⟩
  have VG := Lib.hid (Var.new hrg)
  replace HBB := Lib.hid ((HBB.out.trans (hb4.mono HBB.out.size)).alloc (Nat.le_trans HBB.out.size hb4.size) (.cells #[.slice ag (M.dig (Nat.gcd x y)).length cg] 24))
  clear hrg hb4 d0 d1
  go_wp2_with fail
  refine (show Calls Tryd.prog 32 #[.int .i64 1] (w4.alloc (.cells #[.slice ag (M.dig (Nat.gcd x y)).length cg] 24)) _ from rof_any 1 _ (by omega)).mono ?_
  rintro e w5 ⟨v, rfl, ⟨ao, co, rfl, hro⟩, hb5⟩
  replace VG := Lib.hid ((VG.out.below hb5).alloc (.cells #[.slice ao (M.dig 1).length co] 24))
  have VO := Lib.hid (Var.new hro)
  replace HBB := Lib.hid ((HBB.out.trans (hb5.mono HBB.out.size)).alloc (Nat.le_trans HBB.out.size hb5.size) (.cells #[.slice ao (M.dig 1).length co] 24))
  clear hro hb5
  have e3 := VG.out.cell
  have e4 := VO.out.cell
  go_wp2_with fail
  refine (rcmp_any ag ao cg co (Nat.gcd x y) 1 _ VG.out.row VO.out.row).mono ?_
  rintro e w6 ⟨rfl, hb6⟩
  replace HBB := Lib.hid (HBB.out.trans (hb6.mono HBB.out.size))
  clear hb6
  rw [HG.out, cmp_eq]
  go_wp2_with fail
  go_ret
  exact ⟨rfl, HBB.out⟩

set_option maxRecDepth 100000 in
set_option maxHeartbeats 1000000 in
theorem rratValid_no (a b : Option Addr) (ca cb : Nat) (zs ys : List Int) (w : World) (hA : Row w a zs ca) (hB : Row w b ys cb) (h : ¬ RVd zs ys) :
    Calls Tryd.prog 93 #[.agg #[.slice a zs.length ca, .slice b ys.length cb]] w fun e W' => e = .returned (.bool false) ∧ Below w.heap.size w W' := by
  obtain ⟨⟨c0, _⟩, c1, _⟩ := two_cells w (.slice a zs.length ca) (.slice b ys.length cb) 58
  have hb := (Below.refl _ w).alloc (Nat.le_refl _) (.cells #[.slice a zs.length ca, .slice b ys.length cb] 58)
  have HA := Lib.hid (hA.below hb)
  have HB := Lib.hid (hB.below hb)
  have HBB := Lib.hid hb
  have hmB := hB.most
  have hrB := hB.room
  clear hA hB hb
  by_cases h1 : Vld zs
  · have HV1 := Lib.hid h1
    by_cases h2 : Vld ys
    · have HV2 := Lib.hid h2
      obtain ⟨x, rfl, hx⟩ := vld_num h1
      obtain ⟨y, rfl, hy⟩ := vld_num h2
      have H := Lib.hid h
      clear h h1 h2
      go_enter Tryd.func93, Tryd.ntmps93
      go_wp2_with fail
      generalize (w.alloc (.cells #[.slice a (M.dig x).length ca, .slice b (M.dig y).length cb] 58)) = w1 at *
      refine (rvalid_yes a _ ca _ HA.out HV1.out).mono ?_
      rintro e w2 ⟨rfl, hb2⟩
      have d0 := cell_below hb2 c0
      have d1 := cell_below hb2 c1
      replace HA := Lib.hid (HA.out.below hb2)
      replace HB := Lib.hid (HB.out.below hb2)
      replace HBB := Lib.hid (HBB.out.trans (hb2.mono HBB.out.size))
      clear hb2 c0 c1
      go_wp2_with fail
      refine (rvalid_yes b _ cb _ HB.out HV2.out).mono ?_
      rintro e w3 ⟨rfl, hb3⟩
      replace d0 := cell_below hb3 d0
      replace d1 := cell_below hb3 d1
      replace HA := Lib.hid (HA.out.below hb3)
      replace HB := Lib.hid (HB.out.below hb3)
      replace HBB := Lib.hid (HBB.out.trans (hb3.mono HBB.out.size))
      clear hb3
      by_cases hy0 : y = 0
      · subst hy0
        simp only [M.dig_zero, List.length_nil] at d1
        go_wp2_with fail
        go_ret
        exact ⟨rfl, HBB.out⟩
      · have hy1 : 0 < y := by omega
        have hyl : ¬ M.dig y = [] := fun e => by have := M.dig_nil.1 e; omega
        have hyb : (((M.dig y).length : Int) == 0) = false := beq_eq_false_iff_ne.2 (by intro e; exact hyl (List.length_eq_zero_iff.1 (by omega)))
        go_wp2_with fail
        clear hyl hyb
        refine (rgcd_any a b ca cb x y _ hx hy HA.out HB.out).mono ?_
        rintro e w4 ⟨⟨v, rfl, ag, cg, rfl, hrg⟩, hb4⟩
        have VG := Lib.hid (Var.new hrg)
        replace HBB := Lib.hid ((HBB.out.trans (hb4.mono HBB.out.size)).alloc (Nat.le_trans HBB.out.size hb4.size) (.cells #[.slice ag (M.dig (Nat.gcd x y)).length cg] 24))
        clear hrg hb4 d0 d1
        go_wp2_with fail
        refine (show Calls Tryd.prog 32 #[.int .i64 1] (w4.alloc (.cells #[.slice ag (M.dig (Nat.gcd x y)).length cg] 24)) _ from rof_any 1 _ (by omega)).mono ?_
        rintro e w5 ⟨v, rfl, ⟨ao, co, rfl, hro⟩, hb5⟩
        replace VG := Lib.hid ((VG.out.below hb5).alloc (.cells #[.slice ao (M.dig 1).length co] 24))
        have VO := Lib.hid (Var.new hro)
        replace HBB := Lib.hid ((HBB.out.trans (hb5.mono HBB.out.size)).alloc (Nat.le_trans HBB.out.size hb5.size) (.cells #[.slice ao (M.dig 1).length co] 24))
        clear hro hb5
        have e3 := VG.out.cell
        have e4 := VO.out.cell
        go_wp2_with fail
        refine (rcmp_any ag ao cg co (Nat.gcd x y) 1 _ VG.out.row VO.out.row).mono ?_
        rintro e w6 ⟨rfl, hb6⟩
        replace HBB := Lib.hid (HBB.out.trans (hb6.mono HBB.out.size))
        clear hb6
        have hcm := cmp_one (x := Nat.gcd x y) (fun e => H.out (RVd.of hx hy hy1 e))
        generalize Lib.compareInt ((Nat.gcd x y : Nat) : Int) ((1 : Nat) : Int) = m at *
        go_wp2_with fail
        go_ret
        exact ⟨rfl, HBB.out⟩
    · have HV2 := Lib.hid h2
      clear h h1 h2
      go_enter Tryd.func93, Tryd.ntmps93
      go_wp2_with fail
      generalize (w.alloc (.cells #[.slice a zs.length ca, .slice b ys.length cb] 58)) = w1 at *
      refine (rvalid_yes a _ ca _ HA.out HV1.out).mono ?_
      rintro e w2 ⟨rfl, hb2⟩
      have d0 := cell_below hb2 c0
      have d1 := cell_below hb2 c1
      replace HA := Lib.hid (HA.out.below hb2)
      replace HB := Lib.hid (HB.out.below hb2)
      replace HBB := Lib.hid (HBB.out.trans (hb2.mono HBB.out.size))
      clear hb2 c0 c1
      go_wp2_with fail
      refine (rvalid_no b _ cb _ HB.out HV2.out).mono ?_
      rintro e w3 ⟨rfl, hb3⟩
      replace d0 := cell_below hb3 d0
      replace d1 := cell_below hb3 d1
      replace HA := Lib.hid (HA.out.below hb3)
      replace HB := Lib.hid (HB.out.below hb3)
      replace HBB := Lib.hid (HBB.out.trans (hb3.mono HBB.out.size))
      clear hb3
      go_wp2_with fail
      go_ret
      exact ⟨rfl, HBB.out⟩
  · have HV1 := Lib.hid h1
    clear h h1
    go_enter Tryd.func93, Tryd.ntmps93
    go_wp2_with fail
    generalize (w.alloc (.cells #[.slice a zs.length ca, .slice b ys.length cb] 58)) = w1 at *
    refine (rvalid_no a _ ca _ HA.out HV1.out).mono ?_
    rintro e w2 ⟨rfl, hb2⟩
    have d0 := cell_below hb2 c0
    have d1 := cell_below hb2 c1
    replace HA := Lib.hid (HA.out.below hb2)
    replace HB := Lib.hid (HB.out.below hb2)
    replace HBB := Lib.hid (HBB.out.trans (hb2.mono HBB.out.size))
    clear hb2 c0 c1
    go_wp2_with fail
    go_ret
    exact ⟨rfl, HBB.out⟩
end Go.Proofs.YtfaggdjoogpmmaaDoor
