/- The reference's Power. -/
import Derived.Test.YtfaggdjoogpmmaaDoorBRefMul
import Derived.Test.YtfaggdjoogpmmaaDoorB10
namespace Go.Proofs.YtfaggdjoogpmmaaDoor
open Go Go.RowKit Go.Shelf

structure RpSt (w : World) (p x : Nat) (a : Option Addr) (ca : Nat) (z : Nat) (o : Option Addr) (co : Nat) (W : World) : Prop where
  cA : W.cell? ⟨w.heap.size, 0, none⟩ = some (.slice a (M.dig x).length ca)
  cR : W.cell? ⟨w.heap.size + 1, 0, none⟩ = some (.slice none 0 0)
  fR : W.frozen? ⟨w.heap.size + 1, 0, none⟩ = false
  cO : W.cell? ⟨p, 0, none⟩ = some (.slice o (M.dig z).length co)
  fO : W.frozen? ⟨p, 0, none⟩ = false
  rA : Row W a (M.dig x) ca
  rO : Row W o (M.dig z) co
  far : w.heap.size + 1 < p
  below : Below w.heap.size w W
theorem RpSt.keep {w : World} {p x : Nat} {a : Option Addr} {ca z : Nat} {o : Option Addr} {co : Nat} {W W' : World} (h : RpSt w p x a ca z o co W) (hb : Below W.heap.size W W') : RpSt w p x a ca z o co W' :=
  ⟨cell_below hb h.cA, cell_below hb h.cR, frozen_below hb h.cR h.fR, cell_below hb h.cO, frozen_below hb h.cO h.fO, h.rA.below hb, h.rO.below hb, h.far, h.below.trans (hb.mono h.below.size)⟩
theorem RpSt.set {w : World} {p x : Nat} {a : Option Addr} {ca z : Nat} {o : Option Addr} {co : Nat} {W : World} (h : RpSt w p x a ca z o co W) {z' : Nat} {o' : Option Addr} {co' : Nat} (hr : Row W o' (M.dig z') co') :
    RpSt w p x a ca z' o' co' (W.setCell ⟨p, 0, none⟩ (.slice o' (M.dig z').length co')) := by
  have hp := h.far
  exact ⟨(cell_other _ (show w.heap.size ≠ p by omega)).trans h.cA, (cell_other _ (show w.heap.size + 1 ≠ p by omega)).trans h.cR, (World.frozen?_setCell _ _ _ _).trans h.fR, World.cell?_setCell_same _ _ _ h.cO, (World.frozen?_setCell _ _ _ _).trans h.fO,
    h.rA.storedAt h.cO _, hr.storedAt h.cO _, hp, h.below.setCell (p := ⟨p, 0, none⟩) (by show w.heap.size ≤ p; omega) _⟩

set_option maxRecDepth 100000 in
set_option maxHeartbeats 1000000 in
/-- **ref01.Power**, out of range. -/
theorem rpower_range (a : Option Addr) (ca x : Nat) (n : Int) (w : World) (hx : (M.dig x).length ≤ 200) (hn : n < 0 ∨ 4800 < n) (hR : Row w a (M.dig x) ca) :
    Calls Tryd.prog 34 #[.agg #[.slice a (M.dig x).length ca], .int .i64 n] w fun e W' => e = .returned (.tuple #[.agg #[.slice none 0 0], .int .i64 2]) ∧ Below w.heap.size w W' := by
  have Hv := Lib.hid (vld_dig hx)
  have hB2 := boxes1_below w (.slice a (M.dig x).length ca)
  have hs2 := boxes1_size w (.slice a (M.dig x).length ca)
  obtain ⟨c0, c1, f1⟩ := boxes1_cells w (.slice a (M.dig x).length ca)
  have HR := Lib.hid (hR.below hB2)
  have HB := Lib.hid hB2
  clear hR hB2
  go_enter Tryd.func34, Tryd.ntmps34
  go_wp2_with fail
  generalize hw3 : ((w.alloc (.cells #[.slice a (M.dig x).length ca] 24)).alloc (.cells #[.slice none 0 0] 24)) = w3
  obtain rfl : boxes1 w (.slice a (M.dig x).length ca) = w3 := hw3
  generalize boxes1 w (.slice a (M.dig x).length ca) = w3 at *
  refine (rvalid_yes a _ ca _ HR.out Hv.out).mono ?_
  rintro e w5 ⟨rfl, hb5⟩
  have k0 := cell_below hb5 c0
  have k1 := cell_below hb5 c1
  have l1 := frozen_below hb5 c1 f1
  have HB5 := Lib.hid (HB.out.trans (hb5.mono (by omega)))
  clear c0 c1 f1 hb5
  by_cases h0 : n < 0
  · clear hn
    go_wp2_with fail
    refine bodyPost_ret (v := .tuple #[.agg #[.slice none 0 0], .int .i64 2]) (by simp [results, Tryd.results34, go_sem, k1]) rfl ⟨rfl, HB5.out.setCell (p := ⟨w.heap.size + 1, 0, none⟩) (by show w.heap.size ≤ w.heap.size + 1; omega) _⟩
  · have h1 : 4800 < n := by omega
    clear hn
    go_wp2_with fail
    refine bodyPost_ret (v := .tuple #[.agg #[.slice none 0 0], .int .i64 2]) (by simp [results, Tryd.results34, go_sem, k1]) rfl ⟨rfl, HB5.out.setCell (p := ⟨w.heap.size + 1, 0, none⟩) (by show w.heap.size ≤ w.heap.size + 1; omega) _⟩

theorem cmp_one {x : Nat} (h : x ≠ 1) : (Lib.compareInt (x : Int) ((1 : Nat) : Int) == 0) = false := by
  rw [beq_eq_false_iff_ne]
  unfold Lib.compareInt
  split
  · decide
  · split
    · decide
    · omega
theorem cmp_eq (x : Nat) : (Lib.compareInt (x : Int) (x : Int)) = 0 := by
  unfold Lib.compareInt
  rw [if_neg (by omega), if_neg (by omega)]

set_option maxRecDepth 100000 in
set_option maxHeartbeats 1000000 in
/-- **ref01.Power** -/
theorem rpower_any (a : Option Addr) (ca x n : Nat) (w : World) (hx : (M.dig x).length ≤ 200) (hn : n ≤ 4800) (hR : Row w a (M.dig x) ca) :
    Calls Tryd.prog 34 #[.agg #[.slice a (M.dig x).length ca], .int .i64 (n : Int)] w fun e W' => NatRes (x ^ n) e W' ∧ Below w.heap.size w W' := by
  have Hv := Lib.hid (vld_dig hx)
  have HX := Lib.hid hx
  have hB2 := boxes1_below w (.slice a (M.dig x).length ca)
  have hs2 := boxes1_size w (.slice a (M.dig x).length ca)
  obtain ⟨c0, c1, f1⟩ := boxes1_cells w (.slice a (M.dig x).length ca)
  have HR := Lib.hid (hR.below hB2)
  have HB := Lib.hid hB2
  clear hR hB2
  go_enter Tryd.func34, Tryd.ntmps34
  go_wp2_with fail
  generalize hw3 : ((w.alloc (.cells #[.slice a (M.dig x).length ca] 24)).alloc (.cells #[.slice none 0 0] 24)) = w3
  obtain rfl : boxes1 w (.slice a (M.dig x).length ca) = w3 := hw3
  generalize boxes1 w (.slice a (M.dig x).length ca) = w3 at *
  refine (rvalid_yes a _ ca _ HR.out Hv.out).mono ?_
  rintro e w5 ⟨rfl, hb5⟩
  have C := Lib.hid (And.intro (cell_below hb5 c0) (And.intro (cell_below hb5 c1) (frozen_below hb5 c1 f1)))
  have HB5 := Lib.hid (HB.out.trans (hb5.mono (by omega)))
  have HR5 := Lib.hid (HR.out.below hb5)
  have hs5 := hb5.size
  clear c0 c1 f1 hb5 HB HR
  go_wp2_with fail
  refine (show Calls Tryd.prog 32 #[.int .i64 1] w5 _ from rof_any 1 w5 (by omega)).mono ?_
  rintro e w6 ⟨v, rfl, ⟨o, co, rfl, ho⟩, hb6⟩
  have hs6 := hb6.size
  have hST : RpSt w w6.heap.size x a ca 1 o co (w6.alloc (.cells #[.slice o (M.dig 1).length co] 24)) := by
    have hb7 := (Below.refl _ w6).alloc (Nat.le_refl _) (.cells #[.slice o (M.dig 1).length co] 24)
    have hb := hb6.trans (hb7.mono hs6)
    exact ⟨cell_below hb C.out.1, cell_below hb C.out.2.1, frozen_below hb C.out.2.1 C.out.2.2, cell_new _ _ _, frozen_new _ _ _, HR5.out.below hb, ho.alloc _, by omega, HB5.out.trans (hb.mono (by omega))⟩
  have HST := Lib.hid hST
  have c0 := hST.cA
  have c1 := hST.cR
  have f1 := hST.fR
  have c2 := hST.cO
  clear hST ho hb6 C HB5 HR5
  by_cases hx0 : x = 0
  · subst hx0
    simp only [M.dig_zero, List.length_nil] at c0
    by_cases hn0 : n = 0
    · have hx1 : (0 : Nat) ≠ 1 := by omega
      have hd : decide ((0 : Int) < (n : Int)) = false := by simp; omega
      have hnn : ¬ 0 < n := by omega
      clear hn0
      go_wp2_with fail
      have hcall := rcmp_any a o ca co 0 1 _ HST.out.rA HST.out.rO
      simp only [M.dig_zero, List.length_nil] at hcall
      refine hcall.mono ?_
      clear hcall hd hnn
      rintro e w8 ⟨rfl, hb8⟩
      replace HST := Lib.hid (HST.out.keep hb8)
      clear c0 c1 c2 f1 hb8
      have hcm := cmp_one hx1
      generalize Lib.compareInt ((0 : Nat) : Int) ((1 : Nat) : Int) = m at *
      go_wp2_with fail
      clear hcm
      go_loopw [1] (fun i wr => ∃ (r z : Nat) (o : Option Addr) (co : Nat), i = .int .i64 (r : Int) ∧ r ≤ 4800 ∧ z * 0 ^ r = 0 ^ n ∧ (M.dig z).length ≤ 200 ∧ RpSt w w6.heap.size 0 a ca z o co wr) (fun i _ => (intOf i).toNat)
      case atStart => exact ⟨n, 1, o, co, rfl, hn, by rw [Nat.one_mul], by rw [dig_one]; simp, HST.out⟩
      case round =>
        clear HST
        obtain ⟨r, z, o, co, rfl, hr, hz, hl, hst⟩ := hrel
        have HST := Lib.hid hst
        have HZ := Lib.hid hz
        have c0 := hst.cA
        have c1 := hst.cR
        have c2 := hst.cO
        have f1 := hst.fR
        have f2 := hst.fO
        clear hst hz
        by_cases h0 : 0 < r
        · go_wp2_with fail
          refine (show Calls Tryd.prog 29 _ _ _ from rMul_any o a co ca z 0 _ hl HX.out HST.out.rO HST.out.rA).mono ?_
          rintro e w9 ⟨hres, hb9⟩
          have HS9 := Lib.hid (HST.out.keep hb9)
          clear c0 c1 c2 f1 f2 hb9
          have c1 := HS9.out.cR
          have f1 := HS9.out.fR
          have c2 := HS9.out.cO
          have f2 := HS9.out.fO
          have hne : ¬ w.heap.size + 1 = w6.heap.size := by have := HS9.out.far; omega
          have hne2 : ¬ w6.heap.size = w.heap.size + 1 := by omega
          by_cases h200 : (M.dig (z * 0)).length ≤ 200
          · obtain ⟨v, rfl, o', co', rfl, ho'⟩ := hres.ok h200
            have HS10 := Lib.hid (HS9.out.set ho')
            clear hres ho'
            go_wp2_with fail
            go_roundw
            case rel => exact ⟨r - 1, z * 0, o', co', congrArg (Value.int .i64) (by omega), by omega, by rw [← HZ.out, Nat.mul_assoc, ← Nat.pow_succ']; congr 2; omega, h200, HS10.out⟩
            case measure => simp [intOf]; omega
          · exact absurd (by rw [Nat.mul_zero, M.dig_zero]; simp) h200
        · obtain rfl : r = 0 := by omega
          go_wp2_with fail
          refine bodyPost_ret (v := .tuple #[.agg #[.slice o (M.dig z).length co], .int .i64 0]) (by simp [results, Tryd.results34, go_sem, c1]) rfl ⟨?_, ?_⟩
          · have hz := HZ.out
            rw [Nat.pow_zero, Nat.mul_one] at hz
            rw [← hz]
            exact natRes_ok hl ⟨o, co, rfl, HST.out.rO.storedAt c1 _⟩
          · exact HST.out.below.setCell (p := ⟨w.heap.size + 1, 0, none⟩) (by show w.heap.size ≤ w.heap.size + 1; omega) _
    · have hn1 : 0 < n := by omega
      go_wp2_with fail
      refine bodyPost_ret (v := .tuple #[.agg #[.slice none 0 0], .int .i64 0]) (by simp [results, Tryd.results34, go_sem, c1]) rfl ⟨?_, HST.out.below.setCell (p := ⟨w.heap.size + 1, 0, none⟩) (by show w.heap.size ≤ w.heap.size + 1; omega) _⟩
      rw [Nat.zero_pow hn1]
      exact natRes_ok (by rw [M.dig_zero]; simp) ⟨none, 0, by rw [M.dig_zero]; rfl, by rw [M.dig_zero]; exact ⟨Nat.le_refl _, by omega, fun j hj => by simp at hj⟩⟩
  · have hxne : ¬ M.dig x = [] := fun h => hx0 (M.dig_nil.1 h)
    by_cases hx1 : x = 1
    · subst hx1
      go_wp2_with fail
      refine (show Calls Tryd.prog 69 _ _ _ from rcmp_any a o ca co 1 1 _ HST.out.rA HST.out.rO).mono ?_
      rintro e w8 ⟨rfl, hb8⟩
      replace HST := Lib.hid (HST.out.keep hb8)
      clear c0 c1 c2 f1 hb8
      rw [cmp_eq]
      have c1 := HST.out.cR
      have c2 := HST.out.cO
      have f1 := HST.out.fR
      go_wp2_with fail
      refine bodyPost_ret (v := .tuple #[.agg #[.slice o (M.dig 1).length co], .int .i64 0]) (by simp [results, Tryd.results34, go_sem, c1]) rfl ⟨?_, HST.out.below.setCell (p := ⟨w.heap.size + 1, 0, none⟩) (by show w.heap.size ≤ w.heap.size + 1; omega) _⟩
      rw [Nat.one_pow]
      exact natRes_ok (by rw [dig_one]; simp) ⟨o, co, rfl, HST.out.rO.storedAt c1 _⟩
    · skip
      go_wp2_with fail
      refine (rcmp_any a o ca co x 1 _ HST.out.rA HST.out.rO).mono ?_
      rintro e w8 ⟨rfl, hb8⟩
      replace HST := Lib.hid (HST.out.keep hb8)
      clear c0 c1 c2 f1 hb8
      have hcm := cmp_one hx1
      generalize Lib.compareInt (x : Int) ((1 : Nat) : Int) = m at *
      go_wp2_with fail
      clear hcm
      go_loopw [1] (fun i wr => ∃ (r z : Nat) (o : Option Addr) (co : Nat), i = .int .i64 (r : Int) ∧ r ≤ 4800 ∧ z * x ^ r = x ^ n ∧ (M.dig z).length ≤ 200 ∧ RpSt w w6.heap.size x a ca z o co wr) (fun i _ => (intOf i).toNat)
      case atStart => exact ⟨n, 1, o, co, rfl, hn, by rw [Nat.one_mul], by rw [dig_one]; simp, HST.out⟩
      case round =>
        clear HST
        obtain ⟨r, z, o, co, rfl, hr, hz, hl, hst⟩ := hrel
        have HST := Lib.hid hst
        have HZ := Lib.hid hz
        have c0 := hst.cA
        have c1 := hst.cR
        have c2 := hst.cO
        have f1 := hst.fR
        have f2 := hst.fO
        clear hst hz
        by_cases h0 : 0 < r
        · go_wp2_with fail
          refine (show Calls Tryd.prog 29 _ _ _ from rMul_any o a co ca z x _ hl HX.out HST.out.rO HST.out.rA).mono ?_
          rintro e w9 ⟨hres, hb9⟩
          have HS9 := Lib.hid (HST.out.keep hb9)
          clear c0 c1 c2 f1 f2 hb9
          have c1 := HS9.out.cR
          have f1 := HS9.out.fR
          have c2 := HS9.out.cO
          have f2 := HS9.out.fO
          have hne : ¬ w.heap.size + 1 = w6.heap.size := by have := HS9.out.far; omega
          have hne2 : ¬ w6.heap.size = w.heap.size + 1 := by omega
          by_cases h200 : (M.dig (z * x)).length ≤ 200
          · obtain ⟨v, rfl, o', co', rfl, ho'⟩ := hres.ok h200
            have HS10 := Lib.hid (HS9.out.set ho')
            clear hres ho'
            go_wp2_with fail
            go_roundw
            case rel => exact ⟨r - 1, z * x, o', co', congrArg (Value.int .i64) (by omega), by omega, by rw [← HZ.out, Nat.mul_assoc, ← Nat.pow_succ']; congr 2; omega, h200, HS10.out⟩
            case measure => simp [intOf]; omega
          · obtain rfl := hres.limit h200
            have HN := Lib.hid (show ¬ (M.dig (x ^ n)).length ≤ 200 from fun h => h200 (Nat.le_trans (M.dig_len_mono (by
              rw [← HZ.out, show r = (r - 1) + 1 by omega, Nat.pow_succ', ← Nat.mul_assoc]
              exact Nat.le_mul_of_pos_right _ (Nat.pow_pos (by omega)))) h))
            have hcell : ∀ u : Value, (w9.setCell ⟨w6.heap.size, 0, none⟩ u).cell? ⟨w.heap.size + 1, 0, none⟩ = some (.slice none 0 0) := fun u => (cell_other u hne).trans c1
            clear hres h200
            go_wp2_with fail
            refine bodyPost_ret (v := .tuple #[.agg #[.slice none 0 0], .int .i64 3]) (by simp [results, Tryd.results34, go_sem, c1]) rfl ⟨natRes_limit HN.out, ?_⟩
            exact (HS9.out.below.setCell (p := ⟨w6.heap.size, 0, none⟩) (by have := HS9.out.far; show w.heap.size ≤ w6.heap.size; omega) _).setCell (p := ⟨w.heap.size + 1, 0, none⟩) (by show w.heap.size ≤ w.heap.size + 1; omega) _
        · obtain rfl : r = 0 := by omega
          go_wp2_with fail
          refine bodyPost_ret (v := .tuple #[.agg #[.slice o (M.dig z).length co], .int .i64 0]) (by simp [results, Tryd.results34, go_sem, c1]) rfl ⟨?_, ?_⟩
          · have hz := HZ.out
            rw [Nat.pow_zero, Nat.mul_one] at hz
            rw [← hz]
            exact natRes_ok hl ⟨o, co, rfl, HST.out.rO.storedAt c1 _⟩
          · exact HST.out.below.setCell (p := ⟨w.heap.size + 1, 0, none⟩) (by show w.heap.size ≤ w.heap.size + 1; omega) _
end Go.Proofs.YtfaggdjoogpmmaaDoor
