/- The reference's Power. nat.Parse. What nat's and the reference's Power, Choose and Parse answer out of their ranges. chance's number, plus, power, choose. chance's product. chance's alternating. -/
import Derived.Test.YtmejneobfkbgeaaGreatDoorB5
namespace Go.Proofs.YtmejneobfkbgeaaGreatDoor
open Go Go.RowKit Go.Shelf

structure RpSt (w : World) (p x : Nat) (a : Option Addr) (ca : Nat) (z : Nat) (o : Option Addr) (co : Nat) (W : World) : Prop where
  cA : W.cell? ⟨w.heap.size, 0, none⟩ = some (.slice a (M.dig x).length ca)
  cR : W.cell? ⟨w.heap.size + 1, 0, none⟩ = some (.slice none 0 0)
  fR : W.frozen? ⟨w.heap.size + 1, 0, none⟩ = false
  cO : W.cell? ⟨p, 0, none⟩ = some (.slice o (M.dig z).length co)
  fO : W.frozen? ⟨p, 0, none⟩ = false
  rA : Row W a (M.dig x) ca
  rO : Row W o (M.dig z) co
  far : w.heap.size + 1 < p
  below : Below w.heap.size w W
theorem RpSt.keep {w : World} {p x : Nat} {a : Option Addr} {ca z : Nat} {o : Option Addr} {co : Nat} {W W' : World} (h : RpSt w p x a ca z o co W) (hb : Below W.heap.size W W') : RpSt w p x a ca z o co W' :=
  ⟨cell_below hb h.cA, cell_below hb h.cR, frozen_below hb h.cR h.fR, cell_below hb h.cO, frozen_below hb h.cO h.fO, h.rA.below hb, h.rO.below hb, h.far, h.below.trans (hb.mono h.below.size)⟩
theorem RpSt.set {w : World} {p x : Nat} {a : Option Addr} {ca z : Nat} {o : Option Addr} {co : Nat} {W : World} (h : RpSt w p x a ca z o co W) {z' : Nat} {o' : Option Addr} {co' : Nat} (hr : Row W o' (M.dig z') co') :
    RpSt w p x a ca z' o' co' (W.setCell ⟨p, 0, none⟩ (.slice o' (M.dig z').length co')) := by
  have hp := h.far
  exact ⟨(cell_other _ (show w.heap.size ≠ p by omega)).trans h.cA, (cell_other _ (show w.heap.size + 1 ≠ p by omega)).trans h.cR, (World.frozen?_setCell _ _ _ _).trans h.fR, World.cell?_setCell_same _ _ _ h.cO, (World.frozen?_setCell _ _ _ _).trans h.fO,
    h.rA.storedAt h.cO _, hr.storedAt h.cO _, hp, h.below.setCell (p := ⟨p, 0, none⟩) (by show w.heap.size ≤ p; omega) _⟩

set_option maxRecDepth 100000 in
set_option maxHeartbeats 1000000 in
/-- **ref01.Power**, out of range. -/
theorem rpower_range (a : Option Addr) (ca x : Nat) (n : Int) (w : World) (hx : (M.dig x).length ≤ 200) (hn : n < 0 ∨ 4800 < n) (hR : Row w a (M.dig x) ca) :
    Calls Tryz.prog 108 #[.agg #[.slice a (M.dig x).length ca], .int .i64 n] w fun e W' => e = .returned (.tuple #[.agg #[.slice none 0 0], .int .i64 2]) ∧ Below w.heap.size w W' := by
  have Hv := Lib.hid (vld_dig hx)
  have hB2 := boxes1_below w (.slice a (M.dig x).length ca)
  have hs2 := boxes1_size w (.slice a (M.dig x).length ca)
  obtain ⟨c0, c1, f1⟩ := boxes1_cells w (.slice a (M.dig x).length ca)
  have HR := Lib.hid (hR.below hB2)
  have HB := Lib.hid hB2
  clear hR hB2
  go_enter Tryz.func108, Tryz.ntmps108
  go_wp2_with fail
  generalize hw3 : ((w.alloc (.cells #[.slice a (M.dig x).length ca] 41)).alloc (.cells #[.slice none 0 0] 41)) = w3
  obtain rfl : boxes1 w (.slice a (M.dig x).length ca) = w3 := hw3
  generalize boxes1 w (.slice a (M.dig x).length ca) = w3 at *
  refine (rvalid_yes a _ ca _ HR.out Hv.out).mono ?_
  rintro e w5 ⟨rfl, hb5⟩
  have k0 := cell_below hb5 c0
  have k1 := cell_below hb5 c1
  have l1 := frozen_below hb5 c1 f1
  have HB5 := Lib.hid (HB.out.trans (hb5.mono (by omega)))
  clear c0 c1 f1 hb5
  by_cases h0 : n < 0
  · clear hn
    go_wp2_with fail
    refine bodyPost_ret (v := .tuple #[.agg #[.slice none 0 0], .int .i64 2]) (by simp [results, Tryz.results108, go_sem, k1]) rfl ⟨rfl, HB5.out.setCell (p := ⟨w.heap.size + 1, 0, none⟩) (by show w.heap.size ≤ w.heap.size + 1; omega) _⟩
  · have h1 : 4800 < n := by omega
    clear hn
    go_wp2_with fail
    refine bodyPost_ret (v := .tuple #[.agg #[.slice none 0 0], .int .i64 2]) (by simp [results, Tryz.results108, go_sem, k1]) rfl ⟨rfl, HB5.out.setCell (p := ⟨w.heap.size + 1, 0, none⟩) (by show w.heap.size ≤ w.heap.size + 1; omega) _⟩

theorem cmp_one {x : Nat} (h : x ≠ 1) : (Lib.compareInt (x : Int) ((1 : Nat) : Int) == 0) = false := by
  rw [beq_eq_false_iff_ne]
  unfold Lib.compareInt
  split
  · decide
  · split
    · decide
    · omega
theorem cmp_eq (x : Nat) : (Lib.compareInt (x : Int) (x : Int)) = 0 := by
  unfold Lib.compareInt
  rw [if_neg (by omega), if_neg (by omega)]

set_option maxRecDepth 100000 in
set_option maxHeartbeats 1000000 in
/-- **ref01.Power** -/
theorem rpower_any (a : Option Addr) (ca x n : Nat) (w : World) (hx : (M.dig x).length ≤ 200) (hn : n ≤ 4800) (hR : Row w a (M.dig x) ca) :
    Calls Tryz.prog 108 #[.agg #[.slice a (M.dig x).length ca], .int .i64 (n : Int)] w fun e W' => NatRes (x ^ n) e W' ∧ Below w.heap.size w W' := by
  have Hv := Lib.hid (vld_dig hx)
  have HX := Lib.hid hx
  have hB2 := boxes1_below w (.slice a (M.dig x).length ca)
  have hs2 := boxes1_size w (.slice a (M.dig x).length ca)
  obtain ⟨c0, c1, f1⟩ := boxes1_cells w (.slice a (M.dig x).length ca)
  have HR := Lib.hid (hR.below hB2)
  have HB := Lib.hid hB2
  clear hR hB2
  go_enter Tryz.func108, Tryz.ntmps108
  go_wp2_with fail
  generalize hw3 : ((w.alloc (.cells #[.slice a (M.dig x).length ca] 41)).alloc (.cells #[.slice none 0 0] 41)) = w3
  obtain rfl : boxes1 w (.slice a (M.dig x).length ca) = w3 := hw3
  generalize boxes1 w (.slice a (M.dig x).length ca) = w3 at *
  refine (rvalid_yes a _ ca _ HR.out Hv.out).mono ?_
  rintro e w5 ⟨rfl, hb5⟩
  have C := Lib.hid (And.intro (cell_below hb5 c0) (And.intro (cell_below hb5 c1) (frozen_below hb5 c1 f1)))
  have HB5 := Lib.hid (HB.out.trans (hb5.mono (by omega)))
  have HR5 := Lib.hid (HR.out.below hb5)
  have hs5 := hb5.size
  clear c0 c1 f1 hb5 HB HR
  go_wp2_with fail
  refine (show Calls Tryz.prog 61 #[.int .i64 1] w5 _ from rof_any 1 w5 (by omega)).mono ?_
  rintro e w6 ⟨v, rfl, ⟨o, co, rfl, ho⟩, hb6⟩
  have hs6 := hb6.size
  have hST : RpSt w w6.heap.size x a ca 1 o co (w6.alloc (.cells #[.slice o (M.dig 1).length co] 41)) := by
    have hb7 := (Below.refl _ w6).alloc (Nat.le_refl _) (.cells #[.slice o (M.dig 1).length co] 41)
    have hb := hb6.trans (hb7.mono hs6)
    exact ⟨cell_below hb C.out.1, cell_below hb C.out.2.1, frozen_below hb C.out.2.1 C.out.2.2, cell_new _ _ _, frozen_new _ _ _, HR5.out.below hb, ho.alloc _, by omega, HB5.out.trans (hb.mono (by omega))⟩
  have HST := Lib.hid hST
  have c0 := hST.cA
  have c1 := hST.cR
  have f1 := hST.fR
  have c2 := hST.cO
  clear hST ho hb6 C HB5 HR5
  by_cases hx0 : x = 0
  · subst hx0
    simp only [M.dig_zero, List.length_nil] at c0
    by_cases hn0 : n = 0
    · have hx1 : (0 : Nat) ≠ 1 := by omega
      have hd : decide ((0 : Int) < (n : Int)) = false := by simp; omega
      have hnn : ¬ 0 < n := by omega
      clear hn0
      go_wp2_with fail
      have hcall := rcmp_any a o ca co 0 1 _ HST.out.rA HST.out.rO
      simp only [M.dig_zero, List.length_nil] at hcall
      refine hcall.mono ?_
      clear hcall hd hnn
      rintro e w8 ⟨rfl, hb8⟩
      replace HST := Lib.hid (HST.out.keep hb8)
      clear c0 c1 c2 f1 hb8
      have hcm := cmp_one hx1
      generalize Lib.compareInt ((0 : Nat) : Int) ((1 : Nat) : Int) = m at *
      go_wp2_with fail
      clear hcm
      go_loopw [1] (fun i wr => ∃ (r z : Nat) (o : Option Addr) (co : Nat), i = .int .i64 (r : Int) ∧ r ≤ 4800 ∧ z * 0 ^ r = 0 ^ n ∧ (M.dig z).length ≤ 200 ∧ RpSt w w6.heap.size 0 a ca z o co wr) (fun i _ => (intOf i).toNat)
      case atStart => exact ⟨n, 1, o, co, rfl, hn, by rw [Nat.one_mul], by rw [dig_one]; simp, HST.out⟩
      case round =>
        clear HST
        obtain ⟨r, z, o, co, rfl, hr, hz, hl, hst⟩ := hrel
        have HST := Lib.hid hst
        have HZ := Lib.hid hz
        have c0 := hst.cA
        have c1 := hst.cR
        have c2 := hst.cO
        have f1 := hst.fR
        have f2 := hst.fO
        clear hst hz
        by_cases h0 : 0 < r
        · go_wp2_with fail
          refine (show Calls Tryz.prog 106 _ _ _ from rMul_any o a co ca z 0 _ hl HX.out HST.out.rO HST.out.rA).mono ?_
          rintro e w9 ⟨hres, hb9⟩
          have HS9 := Lib.hid (HST.out.keep hb9)
          clear c0 c1 c2 f1 f2 hb9
          have c1 := HS9.out.cR
          have f1 := HS9.out.fR
          have c2 := HS9.out.cO
          have f2 := HS9.out.fO
          have hne : ¬ w.heap.size + 1 = w6.heap.size := by have := HS9.out.far; omega
          have hne2 : ¬ w6.heap.size = w.heap.size + 1 := by omega
          by_cases h200 : (M.dig (z * 0)).length ≤ 200
          · obtain ⟨v, rfl, o', co', rfl, ho'⟩ := hres.ok h200
            have HS10 := Lib.hid (HS9.out.set ho')
            clear hres ho'
            go_wp2_with fail
            go_roundw
            case rel => exact ⟨r - 1, z * 0, o', co', congrArg (Value.int .i64) (by omega), by omega, by rw [← HZ.out, Nat.mul_assoc, ← Nat.pow_succ']; congr 2; omega, h200, HS10.out⟩
            case measure => simp [intOf]; omega
          · exact absurd (by rw [Nat.mul_zero, M.dig_zero]; simp) h200
        · obtain rfl : r = 0 := by omega
          go_wp2_with fail
          refine bodyPost_ret (v := .tuple #[.agg #[.slice o (M.dig z).length co], .int .i64 0]) (by simp [results, Tryz.results108, go_sem, c1]) rfl ⟨?_, ?_⟩
          · have hz := HZ.out
            rw [Nat.pow_zero, Nat.mul_one] at hz
            rw [← hz]
            exact natRes_ok hl ⟨o, co, rfl, HST.out.rO.storedAt c1 _⟩
          · exact HST.out.below.setCell (p := ⟨w.heap.size + 1, 0, none⟩) (by show w.heap.size ≤ w.heap.size + 1; omega) _
    · have hn1 : 0 < n := by omega
      go_wp2_with fail
      refine bodyPost_ret (v := .tuple #[.agg #[.slice none 0 0], .int .i64 0]) (by simp [results, Tryz.results108, go_sem, c1]) rfl ⟨?_, HST.out.below.setCell (p := ⟨w.heap.size + 1, 0, none⟩) (by show w.heap.size ≤ w.heap.size + 1; omega) _⟩
      rw [Nat.zero_pow hn1]
      exact natRes_ok (by rw [M.dig_zero]; simp) ⟨none, 0, by rw [M.dig_zero]; rfl, by rw [M.dig_zero]; exact ⟨Nat.le_refl _, by omega, fun j hj => by simp at hj⟩⟩
  · have hxne : ¬ M.dig x = [] := fun h => hx0 (M.dig_nil.1 h)
    by_cases hx1 : x = 1
    · subst hx1
      go_wp2_with fail
      refine (show Calls Tryz.prog 111 _ _ _ from rcmp_any a o ca co 1 1 _ HST.out.rA HST.out.rO).mono ?_
      rintro e w8 ⟨rfl, hb8⟩
      replace HST := Lib.hid (HST.out.keep hb8)
      clear c0 c1 c2 f1 hb8
      rw [cmp_eq]
      have c1 := HST.out.cR
      have c2 := HST.out.cO
      have f1 := HST.out.fR
      go_wp2_with fail
      refine bodyPost_ret (v := .tuple #[.agg #[.slice o (M.dig 1).length co], .int .i64 0]) (by simp [results, Tryz.results108, go_sem, c1]) rfl ⟨?_, HST.out.below.setCell (p := ⟨w.heap.size + 1, 0, none⟩) (by show w.heap.size ≤ w.heap.size + 1; omega) _⟩
      rw [Nat.one_pow]
      exact natRes_ok (by rw [dig_one]; simp) ⟨o, co, rfl, HST.out.rO.storedAt c1 _⟩
    · skip
      go_wp2_with fail
      refine (rcmp_any a o ca co x 1 _ HST.out.rA HST.out.rO).mono ?_
      rintro e w8 ⟨rfl, hb8⟩
      replace HST := Lib.hid (HST.out.keep hb8)
      clear c0 c1 c2 f1 hb8
      have hcm := cmp_one hx1
      generalize Lib.compareInt (x : Int) ((1 : Nat) : Int) = m at *
      go_wp2_with fail
      clear hcm
      go_loopw [1] (fun i wr => ∃ (r z : Nat) (o : Option Addr) (co : Nat), i = .int .i64 (r : Int) ∧ r ≤ 4800 ∧ z * x ^ r = x ^ n ∧ (M.dig z).length ≤ 200 ∧ RpSt w w6.heap.size x a ca z o co wr) (fun i _ => (intOf i).toNat)
      case atStart => exact ⟨n, 1, o, co, rfl, hn, by rw [Nat.one_mul], by rw [dig_one]; simp, HST.out⟩
      case round =>
        clear HST
        obtain ⟨r, z, o, co, rfl, hr, hz, hl, hst⟩ := hrel
        have HST := Lib.hid hst
        have HZ := Lib.hid hz
        have c0 := hst.cA
        have c1 := hst.cR
        have c2 := hst.cO
        have f1 := hst.fR
        have f2 := hst.fO
        clear hst hz
        by_cases h0 : 0 < r
        · go_wp2_with fail
          refine (show Calls Tryz.prog 106 _ _ _ from rMul_any o a co ca z x _ hl HX.out HST.out.rO HST.out.rA).mono ?_
          rintro e w9 ⟨hres, hb9⟩
          have HS9 := Lib.hid (HST.out.keep hb9)
          clear c0 c1 c2 f1 f2 hb9
          have c1 := HS9.out.cR
          have f1 := HS9.out.fR
          have c2 := HS9.out.cO
          have f2 := HS9.out.fO
          have hne : ¬ w.heap.size + 1 = w6.heap.size := by have := HS9.out.far; omega
          have hne2 : ¬ w6.heap.size = w.heap.size + 1 := by omega
          by_cases h200 : (M.dig (z * x)).length ≤ 200
          · obtain ⟨v, rfl, o', co', rfl, ho'⟩ := hres.ok h200
            have HS10 := Lib.hid (HS9.out.set ho')
            clear hres ho'
            go_wp2_with fail
            go_roundw
            case rel => exact ⟨r - 1, z * x, o', co', congrArg (Value.int .i64) (by omega), by omega, by rw [← HZ.out, Nat.mul_assoc, ← Nat.pow_succ']; congr 2; omega, h200, HS10.out⟩
            case measure => simp [intOf]; omega
          · obtain rfl := hres.limit h200
            have HN := Lib.hid (show ¬ (M.dig (x ^ n)).length ≤ 200 from fun h => h200 (Nat.le_trans (M.dig_len_mono (by
              rw [← HZ.out, show r = (r - 1) + 1 by omega, Nat.pow_succ', ← Nat.mul_assoc]
              exact Nat.le_mul_of_pos_right _ (Nat.pow_pos (by omega)))) h))
            have hcell : ∀ u : Value, (w9.setCell ⟨w6.heap.size, 0, none⟩ u).cell? ⟨w.heap.size + 1, 0, none⟩ = some (.slice none 0 0) := fun u => (cell_other u hne).trans c1
            clear hres h200
            go_wp2_with fail
            refine bodyPost_ret (v := .tuple #[.agg #[.slice none 0 0], .int .i64 3]) (by simp [results, Tryz.results108, go_sem, c1]) rfl ⟨natRes_limit HN.out, ?_⟩
            exact (HS9.out.below.setCell (p := ⟨w6.heap.size, 0, none⟩) (by have := HS9.out.far; show w.heap.size ≤ w6.heap.size; omega) _).setCell (p := ⟨w.heap.size + 1, 0, none⟩) (by show w.heap.size ≤ w.heap.size + 1; omega) _
        · obtain rfl : r = 0 := by omega
          go_wp2_with fail
          refine bodyPost_ret (v := .tuple #[.agg #[.slice o (M.dig z).length co], .int .i64 0]) (by simp [results, Tryz.results108, go_sem, c1]) rfl ⟨?_, ?_⟩
          · have hz := HZ.out
            rw [Nat.pow_zero, Nat.mul_one] at hz
            rw [← hz]
            exact natRes_ok hl ⟨o, co, rfl, HST.out.rO.storedAt c1 _⟩
          · exact HST.out.below.setCell (p := ⟨w.heap.size + 1, 0, none⟩) (by show w.heap.size ≤ w.heap.size + 1; omega) _
end Go.Proofs.YtmejneobfkbgeaaGreatDoor

namespace Go.Proofs.YtmejneobfkbgeaaGreatDoor
open Go Go.RowKit Go.Shelf

theorem data_len (s : ByteArray) : s.data.toList.length = s.size := rfl
theorem toList_loop (s : ByteArray) (n : Nat) : ∀ (i : Nat) (r : List UInt8), s.size - i = n → ByteArray.toList.loop s i r = r.reverse ++ s.data.toList.drop i := by
  induction n with
  | zero =>
    intro i r h
    have := data_len s
    rw [ByteArray.toList.loop, if_neg (by omega), List.drop_of_length_le (by omega), List.append_nil]
  | succ n ih =>
    intro i r h
    have h0 := data_len s
    have hl : i < s.data.toList.length := by omega
    rw [ByteArray.toList.loop, if_pos (by omega), ih (i + 1) _ (by omega), List.reverse_cons, List.append_assoc, List.drop_eq_getElem_cons hl]
    have e : s.get! i = s.data.toList[i] := by
      cases s with | mk d =>
      have hd : i < d.size := hl
      simp [ByteArray.get!, hd]
    rw [e]; rfl
theorem toList_data (s : ByteArray) : s.toList = s.data.toList := by
  rw [ByteArray.toList, toList_loop s s.size 0 [] (by omega)]; simp

/-- Is the byte a decimal digit? -/
def digB (c : UInt8) : Bool := decide (48 ≤ c.toNat) && decide (c.toNat ≤ 57)
/-- The texts that Parse takes. -/
def decB (s : ByteArray) : Bool := s.data.toList.all digB && (decide (s.data.toList = [48]) || (decide (s.data.toList ≠ []) && decide (s.data.toList.head? ≠ some 48)))

theorem dec_bad {s : ByteArray} {k : Nat} (h : k < s.size) (hb : digB s[k] = false) : decB s = false := by
  unfold decB
  have : s.data.toList.all digB = false := by
    rw [List.all_eq_false]
    refine ⟨s[k], ?_, by simp [hb]⟩
    exact List.getElem_mem (l := s.data.toList) (h := h)
  rw [this]; rfl
theorem dec_zero {s : ByteArray} (h : s.toList = [48]) : decB s = true := by
  rw [toList_data] at h
  unfold decB; rw [h]; rfl
theorem dec_none {s : ByteArray} (h : s.toList = []) : decB s = false := by
  rw [toList_data] at h
  unfold decB; rw [h]; rfl
theorem dec_else {s : ByteArray} (h1 : ¬ s.toList = [48]) (h0 : 0 < s.size) (hall : s.data.toList.all digB = true) : (s.toList == [48] || !s.toList.isEmpty && (s[0].toNat : Int) != 48) = decB s := by
  have e1 : (s.toList == [48]) = false := by rw [beq_eq_false_iff_ne]; exact h1
  rw [toList_data] at e1 h1 ⊢
  have hl : 0 < s.data.toList.length := h0
  have hne : s.data.toList ≠ [] := by intro e; rw [e] at hl; simp at hl
  have hh : s.data.toList.head? = some s[0] := by
    rw [List.head?_eq_getElem?, List.getElem?_eq_getElem hl]; rfl
  unfold decB
  rw [e1, hall, decide_eq_false h1, decide_eq_true hne, hh]
  have e2 : s.data.toList.isEmpty = false := by rw [List.isEmpty_eq_false_iff]; exact hne
  rw [e2]
  by_cases hc : s[0] = 48
  · have : ((s[0].toNat : Int) != 48) = false := by rw [hc]; rfl
    rw [this, hc]; rfl
  · have : ((s[0].toNat : Int) != 48) = true := by
      rw [bne_iff_ne]
      intro e
      apply hc
      apply UInt8.toNat_inj.1
      have h48 : (48 : UInt8).toNat = 48 := rfl
      rw [h48]; omega
    rw [this, decide_eq_true (by intro e; exact hc (Option.some.inj e))]; rfl
theorem dig_snocB (s : ByteArray) (k : Nat) (h : k < s.size) (ha : (s.data.toList.take k).all digB = true) (hd : digB s[k] = true) : (s.data.toList.take (k + 1)).all digB = true := by
  have hl : k < s.data.toList.length := h
  rw [List.take_succ_eq_append_getElem hl, List.all_append, ha]
  simp only [List.all_cons, List.all_nil, Bool.and_true, Bool.true_and]
  exact hd

/-- The value of a text of digits. -/
def dval (l : List UInt8) : Nat := l.foldl (fun v c => v * 10 + (c.toNat - 48)) 0
theorem dval_snoc (s : ByteArray) (k : Nat) (h : k < s.size) : dval (s.data.toList.take (k + 1)) = dval (s.data.toList.take k) * 10 + (s[k].toNat - 48) := by
  have hl : k < s.data.toList.length := h
  unfold dval
  rw [List.take_succ_eq_append_getElem hl, List.foldl_append]; rfl

def PaRel (w : World) (s : ByteArray) (l i : Value) (W : World) : Prop :=
  ∃ (k : Nat) (a : Option Addr) (cap : Nat) (zs : List Int), i = .int .i64 (k : Int) ∧ k ≤ s.size ∧ l = .slice a zs.length cap ∧ Own W (w.heap.size + 1) (.slice a zs.length cap) zs ∧ M.Lim zs ∧ M.val zs = dval (s.data.toList.take k) ∧ zs.length ≤ k ∧ Below (w.heap.size + 1) (w.alloc (.cells #[.slice none 0 0] 41)) W

end Go.Proofs.YtmejneobfkbgeaaGreatDoor

namespace Go.Proofs.YtmejneobfkbgeaaGreatDoor
open Go Go.RowKit Go.Shelf

set_option maxRecDepth 100000 in
set_option maxHeartbeats 1000000 in
/-- **nat.Power**, out of range. -/
theorem power_range (a : Option Addr) (ca x : Nat) (n : Int) (w : World) (hx : (M.dig x).length ≤ 200) (hn : n < 0 ∨ 4800 < n) (hR : Row w a (M.dig x) ca) :
    Calls Tryz.prog 104 #[.agg #[.slice a (M.dig x).length ca], .int .i64 n] w fun e W' => e = .returned (.tuple #[.agg #[.slice none 0 0], .int .i64 2]) ∧ Below w.heap.size w W' := by
  have Hv := Lib.hid (vld_dig hx)
  have hB2 := boxes1_below w (.slice a (M.dig x).length ca)
  have hs2 := boxes1_size w (.slice a (M.dig x).length ca)
  obtain ⟨c0, c1, f1⟩ := boxes1_cells w (.slice a (M.dig x).length ca)
  have HR := Lib.hid (hR.below hB2)
  have HB := Lib.hid hB2
  clear hR hB2
  go_enter Tryz.func104, Tryz.ntmps104
  go_wp2_with fail
  generalize hw3 : ((w.alloc (.cells #[.slice a (M.dig x).length ca] 41)).alloc (.cells #[.slice none 0 0] 41)) = w3
  obtain rfl : boxes1 w (.slice a (M.dig x).length ca) = w3 := hw3
  generalize boxes1 w (.slice a (M.dig x).length ca) = w3 at *
  refine (valid_yes a _ ca _ HR.out Hv.out).mono ?_
  rintro e w5 ⟨rfl, hb5⟩
  have k0 := cell_below hb5 c0
  have k1 := cell_below hb5 c1
  have l1 := frozen_below hb5 c1 f1
  have HB5 := Lib.hid (HB.out.trans (hb5.mono (by omega)))
  clear c0 c1 f1 hb5
  by_cases h0 : n < 0
  · clear hn
    go_wp2_with fail
    refine bodyPost_ret (v := .tuple #[.agg #[.slice none 0 0], .int .i64 2]) (by simp [results, Tryz.results104, go_sem, k1]) rfl ⟨rfl, HB5.out.setCell (p := ⟨w.heap.size + 1, 0, none⟩) (by show w.heap.size ≤ w.heap.size + 1; omega) _⟩
  · have h1 : 4800 < n := by omega
    clear hn
    go_wp2_with fail
    refine bodyPost_ret (v := .tuple #[.agg #[.slice none 0 0], .int .i64 2]) (by simp [results, Tryz.results104, go_sem, k1]) rfl ⟨rfl, HB5.out.setCell (p := ⟨w.heap.size + 1, 0, none⟩) (by show w.heap.size ≤ w.heap.size + 1; omega) _⟩

set_option maxRecDepth 100000 in
set_option maxHeartbeats 1000000 in
theorem choose_range (n k : Int) (w : World) (hn : n < 0 ∨ 4096 < n) :
    Calls Tryz.prog 103 #[.int .i64 n, .int .i64 k] w fun e W' => e = .returned (.tuple #[.agg #[.slice none 0 0], .int .i64 2]) ∧ Below w.heap.size w W' := by
  by_cases h : n < 0
  · clear hn
    skip
    go_enter Tryz.func103, Tryz.ntmps103
    go_wp2
    exact bodyPost_ret (v := .tuple #[.agg #[.slice none 0 0], .int .i64 2]) (by simp [results, Tryz.results103, go_sem]) rfl ⟨rfl, (Below.refl _ w).alloc (Nat.le_refl _) _⟩
  · have h2 : 4096 < n := by omega
    clear hn
    skip
    go_enter Tryz.func103, Tryz.ntmps103
    go_wp2
    exact bodyPost_ret (v := .tuple #[.agg #[.slice none 0 0], .int .i64 2]) (by simp [results, Tryz.results103, go_sem]) rfl ⟨rfl, (Below.refl _ w).alloc (Nat.le_refl _) _⟩

set_option maxRecDepth 100000 in
set_option maxHeartbeats 1000000 in
theorem rchoose_range (n k : Int) (w : World) (hn : n < 0 ∨ 4096 < n) :
    Calls Tryz.prog 107 #[.int .i64 n, .int .i64 k] w fun e W' => e = .returned (.tuple #[.agg #[.slice none 0 0], .int .i64 2]) ∧ Below w.heap.size w W' := by
  by_cases h : n < 0
  · clear hn
    skip
    go_enter Tryz.func107, Tryz.ntmps107
    go_wp2
    exact bodyPost_ret (v := .tuple #[.agg #[.slice none 0 0], .int .i64 2]) (by simp [results, Tryz.results107, go_sem]) rfl ⟨rfl, (Below.refl _ w).alloc (Nat.le_refl _) _⟩
  · have h2 : 4096 < n := by omega
    clear hn
    skip
    go_enter Tryz.func107, Tryz.ntmps107
    go_wp2
    exact bodyPost_ret (v := .tuple #[.agg #[.slice none 0 0], .int .i64 2]) (by simp [results, Tryz.results107, go_sem]) rfl ⟨rfl, (Below.refl _ w).alloc (Nat.le_refl _) _⟩

set_option maxRecDepth 100000 in
set_option maxHeartbeats 1000000 in
theorem rchoose_none (n : Nat) (k : Int) (w : World) (hn : n ≤ 4096) (hk : k < 0 ∨ (n : Int) < k) :
    Calls Tryz.prog 107 #[.int .i64 (n : Int), .int .i64 k] w fun e W' => e = .returned (.tuple #[.agg #[.slice none 0 0], .int .i64 0]) ∧ Below w.heap.size w W' := by
  have c0 := (cell_of_new w (.slice none 0 0) 41).1
  have d1 : decide ((n : Int) < 0) = false := by simp
  have d2 : decide ((4096 : Int) < (n : Int)) = false := by simp; omega
  by_cases h : k < 0
  · clear hk
    go_enter Tryz.func107, Tryz.ntmps107
    go_wp2
    exact bodyPost_ret (v := .tuple #[.agg #[.slice none 0 0], .int .i64 0]) (by simp [results, Tryz.results107, go_sem]) rfl ⟨rfl, (Below.refl _ w).alloc (Nat.le_refl _) _⟩
  · have h2 : (n : Int) < k := by omega
    have h3 : ¬ k < 0 := h
    clear hk h
    go_enter Tryz.func107, Tryz.ntmps107
    go_wp2
    exact bodyPost_ret (v := .tuple #[.agg #[.slice none 0 0], .int .i64 0]) (by simp [results, Tryz.results107, go_sem]) rfl ⟨rfl, (Below.refl _ w).alloc (Nat.le_refl _) _⟩

end Go.Proofs.YtmejneobfkbgeaaGreatDoor

namespace Go.Proofs.YtmejneobfkbgeaaGreatDoor
open Go Go.RowKit Go.Shelf

namespace C
/-- The number n is returned. -/
def NumR (n : Nat) (e : Ending) (W : World) : Prop := ∃ a c, e = .returned (.agg #[.slice a (M.dig n).length c]) ∧ Row W a (M.dig n) c
/-- A number is stored in a variable of its own and then in the result. -/
theorem ret_var {w wa w1 : World} {r : Nat} {a : Option Addr} {ca n : Nat} (hc : wa.cell? ⟨r, 0, none⟩ = some (.slice none 0 0)) (hf : wa.frozen? ⟨r, 0, none⟩ = false) (hB : Below w.heap.size w wa) (hr0 : w.heap.size ≤ r) (hb : Below wa.heap.size wa w1) (hr : Row w1 a (M.dig n) ca) :
    ∃ (g : Nat) (w2 w3 : World), w1.heap.size = g ∧ w1.alloc (.cells #[.slice a (M.dig n).length ca] 41) = w2 ∧ w2.cell? ⟨g, 0, none⟩ = some (.slice a (M.dig n).length ca) ∧ w2.cell? ⟨r, 0, none⟩ = some (.slice none 0 0) ∧ w2.frozen? ⟨r, 0, none⟩ = false ∧
      w2.setCell ⟨r, 0, none⟩ (.slice a (M.dig n).length ca) = w3 ∧ w3.cell? ⟨r, 0, none⟩ = some (.slice a (M.dig n).length ca) ∧ Row w3 a (M.dig n) ca ∧ Below w.heap.size w w3 := by
  have hlt := lt_of_cell hc
  have h1 : w1.cell? ⟨r, 0, none⟩ = some (.slice none 0 0) := (hb.cell (p := ⟨r, 0, none⟩) hlt).trans hc
  have h2 : w1.frozen? ⟨r, 0, none⟩ = false := (hb.frozen (p := ⟨r, 0, none⟩) hlt).trans hf
  have c2 := cell_later (.cells #[.slice a (M.dig n).length ca] 41) h1
  refine ⟨_, _, _, rfl, rfl, cell_new _ _ _, c2, frozen_later _ h1 h2, rfl, ?_, (hr.alloc _).store c2 _, ((hB.trans (hb.mono hB.size)).alloc (by have := hB.size; have := hb.size; omega) _).setCell (p := ⟨r, 0, none⟩) hr0 _⟩
  exact World.cell?_setCell_same' _ _ _ (by rw [c2]; rfl)

set_option maxRecDepth 100000 in
set_option maxHeartbeats 1000000 in
theorem number_any (n : Nat) (w : World) (hn : n ≤ 9223372036854775807) :
    Calls Tryz.prog 44 #[.int .i64 (n : Int)] w fun e W => NumR n e W ∧ Below w.heap.size w W := by
  have HO := Lib.hid (fun W => of_any n W hn)
  have c0 := cell_of_new w (.slice none 0 0) 41
  have hB0 := (Below.refl _ w).alloc (Nat.le_refl _) (.cells #[.slice none 0 0] 41)
  go_enter Tryz.func44, Tryz.ntmps44
  go_wp2_with fail
  (with_reducible refine (HO.out _).mono ?_)
  rintro e w1 ⟨v, rfl, ⟨a, ca, rfl, hr⟩, hb1⟩
  obtain ⟨g, w2, w3, hg, e1, d1, d2, d3, e2, d4, hr3, hb3⟩ := ret_var c0.1 c0.2 hB0 (Nat.le_refl _) hb1 hr
  clear hr hb1 hB0 HO
  go_wp2_with fail
  exact bodyPost_ret (v := .agg #[.slice a (M.dig n).length ca]) (by simp [results, Tryz.results44, go_sem, d4]) rfl ⟨⟨a, ca, rfl, hr3⟩, hb3⟩

set_option maxRecDepth 100000 in
set_option maxHeartbeats 1000000 in
theorem choose_any (n : Int) (k : Int) (w : World) (hn : n ≤ 4096) :
    Calls Tryz.prog 53 #[.int .i64 n, .int .i64 k] w fun e W => NumR (if n < 0 then 0 else chI n.toNat k) e W ∧ Below w.heap.size w W := by
  have HO := Lib.hid (show ∀ W, Calls Tryz.prog 103 #[.int .i64 n, .int .i64 k] W fun e W' => ∃ (v : Value) (z : Int), e = .returned (.tuple #[v, .int .i64 z]) ∧ Num W' v (if n < 0 then 0 else chI n.toNat k) ∧ Below W.heap.size W W' from fun W => by
    by_cases h : n < 0
    · rw [if_pos h]
      exact (choose_range n k W (.inl h)).mono fun e W' ⟨h1, h2⟩ => ⟨_, _, h1, num_zero _, h2⟩
    · rw [if_neg h]
      obtain ⟨m, rfl⟩ : ∃ m : Nat, n = m := ⟨n.toNat, by omega⟩
      exact (choose_num m k W (by omega)).mono fun e W' ⟨v, h1, h2, h3⟩ => ⟨v, _, h1, h2, h3⟩)
  obtain ⟨x, hx⟩ : ∃ x, (if n < 0 then 0 else chI n.toNat k) = x := ⟨_, rfl⟩
  rw [hx] at HO ⊢
  clear hx
  have c0 := cell_of_new w (.slice none 0 0) 41
  have hB0 := (Below.refl _ w).alloc (Nat.le_refl _) (.cells #[.slice none 0 0] 41)
  go_enter Tryz.func53, Tryz.ntmps53
  go_wp2_with fail
  (with_reducible refine (HO.out _).mono ?_)
  rintro e w1 ⟨v, z, rfl, ⟨a, ca, rfl, hr⟩, hb1⟩
  obtain ⟨g, w2, w3, hg, e1, d1, d2, d3, e2, d4, hr3, hb3⟩ := ret_var c0.1 c0.2 hB0 (Nat.le_refl _) hb1 hr
  clear hr hb1 hB0 HO
  go_wp2_with fail
  exact bodyPost_ret (v := .agg #[.slice a (M.dig x).length ca]) (by simp [results, Tryz.results53, go_sem, d4]) rfl ⟨⟨a, ca, rfl, hr3⟩, hb3⟩

set_option maxRecDepth 100000 in
set_option maxHeartbeats 1000000 in
theorem power_any (b n : Nat) (w : World) (hb : b ≤ 256) (hn : n ≤ 590) :
    Calls Tryz.prog 55 #[.int .i64 (b : Int), .int .i64 (n : Int)] w fun e W => NumR (b ^ n) e W ∧ Below w.heap.size w W := by
  obtain ⟨x, hx⟩ : ∃ x, b ^ n = x := ⟨_, rfl⟩
  have hl : (M.dig (b ^ n)).length ≤ 200 := by
    refine len_pow (e := 8 * n + 1) (Nat.lt_of_le_of_lt (Nat.pow_le_pow_left hb n) ?_) (by omega)
    rw [show (256 : Nat) = 2 ^ 8 from rfl, ← Nat.pow_mul]
    exact Nat.pow_lt_pow_right (by omega) (Nat.lt_succ_self _)
  have HN := Lib.hid (fun W => number_any b W (by omega))
  have HP := Lib.hid (show ∀ (W : World) (a : Option Addr) (ca : Nat), Row W a (M.dig b) ca → Calls Tryz.prog 104 #[.agg #[.slice a (M.dig b).length ca], .int .i64 (n : Int)] W fun e W' => ∃ a' c', e = .returned (.tuple #[.agg #[.slice a' (M.dig x).length c'], .int .i64 0]) ∧ Row W' a' (M.dig x) c' ∧ Below W.heap.size W W' from fun W a ca hr => by
    rw [← hx]
    refine (Go.Proofs.YtmejneobfkbgeaaGreatDoor.power_any a ca b n W (M.dig_len_le.2 (Nat.lt_of_le_of_lt hb (Nat.lt_of_lt_of_le (by decide : 256 < 16777216 ^ 1) (Nat.pow_le_pow_right (by omega) (by omega))))) (by omega) hr).mono ?_
    rintro e W' ⟨hres, hb'⟩
    obtain ⟨v, rfl, a2, c2, rfl, hr2⟩ := hres.ok hl
    exact ⟨_, _, rfl, hr2, hb'⟩)
  rw [hx]
  clear hl hx
  have c0 := cell_of_new w (.slice none 0 0) 41
  have hB0 := (Below.refl _ w).alloc (Nat.le_refl _) (.cells #[.slice none 0 0] 41)
  go_enter Tryz.func55, Tryz.ntmps55
  go_wp2_with fail
  (with_reducible refine (HN.out _).mono ?_)
  rintro e w1 ⟨⟨a, ca, rfl, hr⟩, hb1⟩
  have HP1 := Lib.hid (HP.out w1 a ca hr)
  have HB1 := Lib.hid hb1
  clear hr hb1 HN HP
  go_wp2_with fail
  (with_reducible refine HP1.out.mono ?_)
  rintro e w2' ⟨a, ca, rfl, hr, hb2⟩
  obtain ⟨g, w2, w3, hg, e1, d1, d2, d3, e2, d4, hr3, hb3⟩ := ret_var c0.1 c0.2 hB0 (Nat.le_refl _) (HB1.out.trans (hb2.mono HB1.out.size)) hr
  clear hr hb2 hB0 HP1 HB1
  go_wp2_with fail
  exact bodyPost_ret (v := .agg #[.slice a (M.dig x).length ca]) (by simp [results, Tryz.results55, go_sem, d4]) rfl ⟨⟨a, ca, rfl, hr3⟩, hb3⟩

/-- Numbers of at most e bits. -/
theorem len_of {n e : Nat} (h : n < 2 ^ e) (he : e ≤ 4800) : (M.dig n).length ≤ 200 := len_pow h (Nat.le_trans he (Nat.le_refl _))
set_option maxRecDepth 100000 in
set_option maxHeartbeats 1000000 in
theorem plus_any (a b : Option Addr) (ca cb x y : Nat) (w : World) (hx : (M.dig x).length ≤ 200) (hy : (M.dig y).length ≤ 200) (hs : (M.dig (x + y)).length ≤ 200) (hA : Row w a (M.dig x) ca) (hB : Row w b (M.dig y) cb) :
    Calls Tryz.prog 38 #[.agg #[.slice a (M.dig x).length ca], .agg #[.slice b (M.dig y).length cb]] w fun e W => NumR (x + y) e W ∧ Below w.heap.size w W := by
  obtain ⟨w0, hw0⟩ : ∃ w0, boxes w (.slice a (M.dig x).length ca) (.slice b (M.dig y).length cb) = w0 := ⟨_, rfl⟩
  obtain ⟨p0, p1, p2, p3⟩ := boxes_cells w (.slice a (M.dig x).length ca) (.slice b (M.dig y).length cb)
  have hB0 := boxes_below w (.slice a (M.dig x).length ca) (.slice b (M.dig y).length cb)
  have hadd := add_num (w := w0) (u := .agg #[.slice a (M.dig x).length ca]) (v := .agg #[.slice b (M.dig y).length cb]) hx hy ⟨a, ca, rfl, by rw [← hw0]; exact hA.below (boxes_below w _ _)⟩ ⟨b, cb, rfl, by rw [← hw0]; exact hB.below (boxes_below w _ _)⟩
  obtain ⟨z, hz⟩ : ∃ z, x + y = z := ⟨_, rfl⟩
  rw [hz] at hadd hs ⊢
  have HA := Lib.hid hadd
  rw [hw0] at p0 p1 p2 p3 hB0
  unfold boxes at hw0
  clear hadd hA hB hz
  go_enter Tryz.func38, Tryz.ntmps38
  go_wp2_with fail
  (with_reducible refine HA.out.mono ?_)
  rintro e w1 ⟨hres, hb1⟩
  obtain ⟨v, rfl, a2, c2, rfl, hr⟩ := hres.ok hs
  obtain ⟨g, w2, w3, hg, e1, d1, d2, d3, e2, d4, hr3, hb3⟩ := ret_var p2 p3 hB0 (by omega) hb1 hr
  clear hr hb1 hB0 HA hs hres
  go_wp2_with fail
  exact bodyPost_ret (v := .agg #[.slice a2 (M.dig z).length c2]) (by simp [results, Tryz.results38, go_sem, d4]) rfl ⟨⟨a2, c2, rfl, hr3⟩, hb3⟩
end C
end Go.Proofs.YtmejneobfkbgeaaGreatDoor

namespace Go.Proofs.YtmejneobfkbgeaaGreatDoor
open Go Go.RowKit Go.Shelf

namespace C
/-- The number at k. -/
def nth (xs : List Nat) (k : Nat) : Nat := xs[k]?.getD 0
/-- The product of the first k numbers. -/
def prd (xs : List Nat) : Nat → Nat
  | 0 => 1
  | k + 1 => prd xs k * nth xs k
/-- Numbers in a block, one after the other. -/
def Facs (W : World) (g : Nat) (xs : List Nat) : Prop := ∀ j, j < xs.length → ∃ a c, W.cell? ⟨g, j, none⟩ = some (.slice a (M.dig (nth xs j)).length c) ∧ Row W a (M.dig (nth xs j)) c
theorem Facs.below {W W' : World} {g : Nat} {xs : List Nat} (h : Facs W g xs) (hb : Below W.heap.size W W') : Facs W' g xs := fun j hj => by
  obtain ⟨a, c, h1, h2⟩ := h j hj
  exact ⟨a, c, (hb.cell (p := ⟨g, j, none⟩) (lt_of_cell h1)).trans h1, h2.below hb⟩
/-- A variable of type Nat that may be stored into. -/
structure Bx (W : World) (g n : Nat) : Prop where
  cell : ∃ a c, W.cell? ⟨g, 0, none⟩ = some (.slice a (M.dig n).length c) ∧ Row W a (M.dig n) c
  free : W.frozen? ⟨g, 0, none⟩ = false
theorem Bx.lt {W : World} {g n : Nat} (h : Bx W g n) : g < W.heap.size := by
  obtain ⟨a, c, h1, _⟩ := h.cell
  exact lt_of_cell h1
theorem Bx.below {W W' : World} {g n : Nat} (h : Bx W g n) (hb : Below W.heap.size W W') : Bx W' g n := by
  have hl := h.lt
  obtain ⟨a, c, h1, h2⟩ := h.cell
  exact ⟨⟨a, c, (hb.cell (p := ⟨g, 0, none⟩) hl).trans h1, h2.below hb⟩, (hb.frozen (p := ⟨g, 0, none⟩) hl).trans h.free⟩
theorem Bx.drewN {W : World} {g n : Nat} (h : Bx W g n) (k : Nat) : Bx (W.drewN k) g n := by
  obtain ⟨a, c, h1, h2⟩ := h.cell
  exact ⟨⟨a, c, h1, h2.drewN k⟩, h.free⟩
theorem Bx.new {W : World} {a : Option Addr} {c n : Nat} (h : Row W a (M.dig n) c) : Bx (W.alloc (.cells #[.slice a (M.dig n).length c] 41)) W.heap.size n :=
  ⟨⟨a, c, cell_new _ _ _, h.alloc _⟩, frozen_new _ _ _⟩
theorem Bx.zero (W : World) : Bx (W.alloc (.cells #[.slice none 0 0] 41)) W.heap.size 0 := by
  have h := Bx.new (row_nil W)
  rw [M.dig_zero] at h
  exact h
theorem Bx.store {W : World} {g n n' : Nat} (h : Bx W g n) {a : Option Addr} {c : Nat} (hr : Row W a (M.dig n') c) : Bx (W.setCell ⟨g, 0, none⟩ (.slice a (M.dig n').length c)) g n' := by
  obtain ⟨a0, c0, h1, h2⟩ := h.cell
  refine ⟨⟨a, c, World.cell?_setCell_same' _ _ _ (by rw [h1]; rfl), hr.store h1 _⟩, ?_⟩
  rw [World.frozen?_setCell]
  exact h.free
theorem Bx.other {W : World} {g g' n n' : Nat} (h : Bx W g n) (h' : Bx W g' n') (hne : g ≠ g') (u : Value) : Bx (W.setCell ⟨g', 0, none⟩ u) g n := by
  obtain ⟨a0, c0, h1, h2⟩ := h.cell
  obtain ⟨a1, c1, k1, _⟩ := h'.cell
  refine ⟨⟨a0, c0, ?_, h2.store k1 _⟩, ?_⟩
  · rw [cell_other u (show g ≠ g' from hne)]; exact h1
  · rw [World.frozen?_setCell]; exact h.free

set_option maxRecDepth 100000 in
set_option maxHeartbeats 1000000 in
/-- **chance.product** -/
theorem product_any (g cap : Nat) (xs : List Nat) (w : World) (hcap : xs.length ≤ cap) (hcap2 : cap ≤ 9223372036854775807) (hF : Facs w g xs) (hl : ∀ j, j < xs.length → (M.dig (nth xs j)).length ≤ 200) (hp : ∀ k, k ≤ xs.length → (M.dig (prd xs k)).length ≤ 200) :
    Calls Tryz.prog 43 #[.slice (some ⟨g, 0, none⟩) xs.length cap] w fun e W => NumR (prd xs xs.length) e W ∧ Below w.heap.size w W := by
  have HP := Lib.hid hp
  have HL := Lib.hid hl
  have HN := Lib.hid (fun W => (show Calls Tryz.prog 44 #[.int .i64 1] W (fun e W' => NumR 1 e W' ∧ Below W.heap.size W W') from number_any 1 W (by omega)))
  have HF := Lib.hid hF
  have hr0 := Bx.zero w
  have hB0 := (Below.refl _ w).alloc (Nat.le_refl _) (.cells #[.slice none 0 0] 41)
  obtain ⟨w0, hw0⟩ : ∃ w0, w.alloc (.cells #[.slice none 0 0] 41) = w0 := ⟨_, rfl⟩
  rw [hw0] at hr0 hB0
  have HR0 := Lib.hid hr0
  obtain ⟨x, hx⟩ : ∃ x, prd xs xs.length = x := ⟨_, rfl⟩
  rw [hx]
  have HX := Lib.hid hx
  clear hr0 hF hl hp hx
  go_enter Tryz.func43, Tryz.ntmps43
  go_wp2_with fail
  (with_reducible refine (HN.out _).mono ?_)
  rintro e w1 ⟨⟨a, ca, rfl, hr⟩, hb1⟩
  obtain ⟨gb, hgb⟩ : ∃ gb, w1.heap.size = gb := ⟨_, rfl⟩
  obtain ⟨w2, hw2⟩ : ∃ w2, w1.alloc (.cells #[.slice a (M.dig 1).length ca] 41) = w2 := ⟨_, rfl⟩
  have hb2 : Below w1.heap.size w1 w2 := by rw [← hw2]; exact (Below.refl _ w1).alloc (Nat.le_refl _) _
  have hV := Bx.new hr
  rw [hw2, hgb] at hV
  have hlt := HR0.out.lt
  have hs1 := hb1.size
  have hne : ¬ w.heap.size = gb := by omega
  have HR2 := Lib.hid ((HR0.out.below hb1).below hb2)
  have HV2 := Lib.hid hV
  have HB2 := Lib.hid ((hB0.trans (hb1.mono hB0.size)).trans (hb2.mono (by have := hB0.size; omega)))
  clear hr hb1 hb2 hV hB0 HN HR0
  go_wp2_with fail
  go_loopw [9] (fun i wr => ∃ k : Nat, i = .int .i64 (k : Int) ∧ k ≤ xs.length ∧ Bx wr gb (prd xs k) ∧ Bx wr w.heap.size 0 ∧ Below w.heap.size w wr) (fun i _ => xs.length - (intOf i).toNat)
  case atStart => exact ⟨0, rfl, Nat.zero_le _, HV2.out, HR2.out, HB2.out⟩
  case round => as_aux_lemma =>
    clear HV2 HR2 HB2
    obtain ⟨k, rfl, hk, hV, hR, hB⟩ := hrel
    have HV := Lib.hid hV
    have HR := Lib.hid hR
    have HB := Lib.hid hB
    clear hV hR hB
    by_cases hlt : k < xs.length
    · obtain ⟨af, cf, c1, hrf⟩ := (HF.out.below HB.out) k hlt
      obtain ⟨x', hx⟩ : ∃ x', nth xs k = x' := ⟨_, rfl⟩
      obtain ⟨y, hy⟩ : ∃ y, prd xs k = y := ⟨_, rfl⟩
      have hlx := HL.out k hlt
      have hly := HP.out k hk
      have hlz := HP.out (k + 1) hlt
      have e1 : prd xs (k + 1) = y * x' := by rw [← hx, ← hy]; rfl
      rw [hx] at c1 hrf hlx
      rw [hy] at hly HV
      rw [e1] at hlz
      have HE := Lib.hid e1
      obtain ⟨w3, hw3⟩ : ∃ w3, wr.alloc (.cells #[.slice af (M.dig x').length cf] 41) = w3 := ⟨_, rfl⟩
      have hb3 : Below wr.heap.size wr w3 := by rw [← hw3]; exact (Below.refl _ wr).alloc (Nat.le_refl _) _
      have hc3 : w3.cell? ⟨wr.heap.size, 0, none⟩ = some (.slice af (M.dig x').length cf) := by rw [← hw3]; exact cell_new _ _ _
      have HV3 := Lib.hid (HV.out.below hb3)
      obtain ⟨ay, cy, c2, hry⟩ := HV3.out.cell
      have hmul := mul_any ay af cy cf y x' w3 hly hlx hry (hrf.below hb3)
      have HM := Lib.hid hmul
      have HR3 := Lib.hid (HR.out.below hb3)
      have HB3 := Lib.hid (HB.out.trans (hb3.mono HB.out.size))
      have HLZ := Lib.hid hlz
      clear hx hy hlx hly hlz e1 hb3 hry hrf hmul HV HR HB
      go_wp2_with fail
      (with_reducible refine HM.out.mono ?_)
      rintro e w4 ⟨hres, hb4⟩
      obtain ⟨v, rfl, a4, c4, rfl, hr4⟩ := hres.ok HLZ.out
      have hv4 := HV3.out.below hb4
      have hr44 := HR3.out.below hb4
      obtain ⟨_, _, d1, _⟩ := hv4.cell
      have d2 := hv4.free
      have HV5 := Lib.hid (hv4.store hr4)
      have HR5 := Lib.hid (hr44.other hv4 hne (.slice a4 (M.dig (y * x')).length c4))
      have HB5 := Lib.hid (((HB3.out.trans (hb4.mono HB3.out.size)).setCell (p := ⟨gb, 0, none⟩) (by show w.heap.size ≤ gb; omega) (.slice a4 (M.dig (y * x')).length c4)))
      clear hres hb4 hr4 hv4 hr44 HM HV3 HR3 HB3 c1 c2 hc3 hw3
      go_wp2_with fail
      go_roundw
      case rel => exact ⟨k + 1, by go_num, hlt, by rw [HE.out]; exact HV5.out, HR5.out, HB5.out⟩
      case measure => simp [intOf]; omega
    · obtain rfl : k = xs.length := by omega
      rw [HX.out] at HV
      obtain ⟨a2, c2, d1, hr⟩ := HV.out.cell
      obtain ⟨_, _, d2, _⟩ := HR.out.cell
      have d3 := HR.out.free
      have HR5 := Lib.hid (HR.out.store hr)
      have HB5 := Lib.hid (HB.out.setCell (p := ⟨w.heap.size, 0, none⟩) (Nat.le_refl _) (.slice a2 (M.dig x).length c2))
      have d4 : (wr.setCell ⟨w.heap.size, 0, none⟩ (.slice a2 (M.dig x).length c2)).cell? ⟨w.heap.size, 0, none⟩ = some (.slice a2 (M.dig x).length c2) := World.cell?_setCell_same' _ _ _ (by rw [d2]; rfl)
      have hr5 := hr.store d2 (.slice a2 (M.dig x).length c2)
      clear HV HR HB hr
      go_wp2_with fail
      exact bodyPost_ret (v := .agg #[.slice a2 (M.dig x).length c2]) (by simp [results, Tryz.results43, go_sem, d4]) rfl ⟨⟨a2, c2, rfl, hr5⟩, HB5.out⟩
end C
end Go.Proofs.YtmejneobfkbgeaaGreatDoor

namespace Go.Proofs.YtmejneobfkbgeaaGreatDoor
open Go Go.RowKit Go.Shelf

namespace C
/-- The terms at even and at odd places below k, added up. -/
def ev (f : Nat → Nat) : Nat → Nat
  | 0 => 0
  | k + 1 => if k % 2 = 0 then ev f k + f k else ev f k
def od (f : Nat → Nat) : Nat → Nat
  | 0 => 0
  | k + 1 => if k % 2 = 0 then od f k else od f k + f k

set_option maxRecDepth 100000 in
set_option maxHeartbeats 1000000 in
/-- **chance.alternating** -/
theorem alternating_any (N : Nat) (v1 v2 : Value) (f : Nat → Nat) (last : Nat) (w : World) (hlast : last ≤ 1000) (hcf : ∀ (args : Array Value) (W : World), Sem.run Tryz.prog (callFunc N args) W = .ok (.enter N args) W)
    (hT : ∀ k, k ≤ last → ∀ W, Below w.heap.size w W → Calls Tryz.prog N #[.int .i64 (k : Int), v1, v2] W fun e W' => NumR (f k) e W' ∧ Below W.heap.size W W')
    (hl : ∀ k, k ≤ last → (M.dig (f k)).length ≤ 200) (he : ∀ k, k ≤ last + 1 → (M.dig (ev f k)).length ≤ 200) (ho : ∀ k, k ≤ last + 1 → (M.dig (od f k)).length ≤ 200) :
    Calls Tryz.prog 87 #[.int .i64 (last : Int), .func (.func N) #[] #[v1, v2]] w fun e W => NumR (ev f (last + 1) - od f (last + 1)) e W ∧ Below w.heap.size w W := by
  have HT := Lib.hid hT
  have HL := Lib.hid hl
  have HE := Lib.hid he
  have HO := Lib.hid ho
  have hr0 := Bx.zero w
  have hB0 := (Below.refl _ w).alloc (Nat.le_refl _) (.cells #[.slice none 0 0] 41)
  obtain ⟨w0, hw0⟩ : ∃ w0, w.alloc (.cells #[.slice none 0 0] 41) = w0 := ⟨_, rfl⟩
  have hs0 : w0.heap.size = w.heap.size + 1 := by rw [← hw0, World.size_alloc]
  rw [hw0] at hr0 hB0
  have hr1 := Bx.zero w0
  have hB1 := (Below.refl _ w0).alloc (Nat.le_refl _) (.cells #[.slice none 0 0] 41)
  obtain ⟨w1, hw1⟩ : ∃ w1, w0.alloc (.cells #[.slice none 0 0] 41) = w1 := ⟨_, rfl⟩
  have hs1 : w1.heap.size = w.heap.size + 2 := by rw [← hw1, World.size_alloc, hs0]
  rw [hw1, hs0] at hr1
  rw [hw1] at hB1
  have hr2 := Bx.zero w1
  have hB2 := (Below.refl _ w1).alloc (Nat.le_refl _) (.cells #[.slice none 0 0] 41)
  obtain ⟨w2, hw2⟩ : ∃ w2, w1.alloc (.cells #[.slice none 0 0] 41) = w2 := ⟨_, rfl⟩
  rw [hw2, hs1] at hr2
  rw [hw2] at hB2
  have HR := Lib.hid ((hr0.below hB1).below hB2)
  have HEv := Lib.hid (hr1.below hB2)
  have HOd := Lib.hid hr2
  have HB := Lib.hid ((hB0.trans (hB1.mono (by omega))).trans (hB2.mono (by omega)))
  obtain ⟨gr, hgr⟩ : ∃ gr, w.heap.size = gr := ⟨_, rfl⟩
  obtain ⟨ge, hge⟩ : ∃ ge, w.heap.size + 1 = ge := ⟨_, rfl⟩
  obtain ⟨go, hgo⟩ : ∃ go, w.heap.size + 2 = go := ⟨_, rfl⟩
  rw [hgr] at HR
  rw [hge] at HEv hs0
  rw [hgo] at HOd hs1
  have n1 : gr ≠ ge := by omega
  have n2 : gr ≠ go := by omega
  have n3 : ge ≠ go := by omega
  clear hT hl he ho hr0 hr1 hr2 hB0 hB1 hB2
  go_enter Tryz.func87, Tryz.ntmps87
  go_wp2_with fail
  go_loopw [7, 12] (fun _ i wr => ∃ k : Nat, i = .int .i64 (k : Int) ∧ k ≤ last + 1 ∧ Hid (Bx wr ge (ev f k)) ∧ Hid (Bx wr go (od f k)) ∧ Hid (Bx wr gr 0) ∧ Hid (Below w.heap.size w wr)) (fun _ i _ => last + 1 - (intOf i).toNat)
  case atStart => exact ⟨0, rfl, Nat.zero_le _, HEv, HOd, HR, HB⟩
  case round => as_aux_lemma =>
    clear HEv HOd HR HB
    obtain ⟨k, rfl, hk, HEv, HOd, HR, HB⟩ := hrel
    by_cases hlt : k < last + 1
    · obtain ⟨x, hx⟩ : ∃ x, f k = x := ⟨_, rfl⟩
      have hk2 : k ≤ last := by omega
      have hlx := HL.out k hk2
      rw [hx] at hlx
      rcases Nat.mod_two_eq_zero_or_one k with hm | hm
      · have hmi : ((k : Int) % 2 == 0) = true := by rw [beq_iff_eq]; omega
        have hmt : (Int.tmod (k : Int) 2 == 0) = true := by rw [beq_iff_eq, Int.tmod_eq_emod_of_nonneg (by omega)]; omega
        have hmt2 : Int.tmod (k : Int) 2 = 0 := by rw [Int.tmod_eq_emod_of_nonneg (by omega)]; omega
        obtain ⟨y, hy⟩ : ∃ y, ev f k = y := ⟨_, rfl⟩
        have hly := HE.out k hk
        have hlz := HE.out (k + 1) (by omega)
        have e1 : ev f (k + 1) = y + x := by rw [← hx, ← hy]; exact by rw [ev, if_pos hm]
        have e2 : od f (k + 1) = od f k := by rw [od, if_pos hm]
        rw [e1] at hlz
        rw [hy] at hly HEv
        have HEQ := Lib.hid (And.intro e1 e2)
        obtain ⟨a, c, c1, hr⟩ := HEv.out.cell
        have q1 : wr.drew.cell? ⟨ge, 0, none⟩ = some (.slice a (M.dig y).length c) := c1
        have HV := Lib.hid (show Bx wr.drew ge y from HEv.out.drewN 1)
        have HW := Lib.hid (show Bx wr.drew go (od f k) from HOd.out.drewN 1)
        have HR1 := Lib.hid (show Bx wr.drew gr 0 from HR.out.drewN 1)
        have HB1 := Lib.hid (show Below w.heap.size w wr.drew from HB.out.drew)
        have HRY := Lib.hid (show Row wr.drew a (M.dig y) c from hr.drewN 1)
        have ht1 := HT.out k hk2 wr.drew HB1.out
        rw [hx] at ht1
        have HT1 := Lib.hid ht1
        have HLS := Lib.hid (And.intro hly hlz)
        have HLX := Lib.hid hlx
        clear hx hy hly hlz hlx e1 e2 c1 hr ht1 HEv HOd HR HB
        go_wp2_with fail
        go_region_law (first
            | (go_simp; (with_reducible refine HT1.out.mono ?_); rintro e w10 ⟨⟨a2, c2, rfl, hr2⟩, hb10⟩; have HV2 := Lib.hid (HV.out.below hb10); have q2 := (hb10.cell (p := ⟨ge, 0, none⟩) (lt_of_cell q1)).trans q1; have HP := Lib.hid (plus_any a a2 c c2 y x w10 HLS.out.1 HLX.out HLS.out.2 (HRY.out.below hb10) hr2); have HW2 := Lib.hid (HW.out.below hb10); have HR2 := Lib.hid (HR1.out.below hb10); have HB2 := Lib.hid (HB1.out.trans (hb10.mono HB1.out.size)); clear hr2 hb10; go_simp)
            | (go_simp; go_at_call 38; (with_reducible refine HP.out.mono ?_); rintro e w11 ⟨⟨a3, c3, rfl, hr3⟩, hb11⟩; have hv3 := HV2.out.below hb11; obtain ⟨_, _, d1, _⟩ := hv3.cell; have d2 := hv3.free; have HV3 := Lib.hid (hv3.store hr3); have HW3 := Lib.hid ((HW2.out.below hb11).other hv3 n3.symm (.slice a3 (M.dig (y + x)).length c3)); have HR3 := Lib.hid ((HR2.out.below hb11).other hv3 n1 (.slice a3 (M.dig (y + x)).length c3)); have HB3 := Lib.hid ((HB2.out.trans (hb11.mono HB2.out.size)).setCell (p := ⟨ge, 0, none⟩) (by show w.heap.size ≤ ge; omega) (.slice a3 (M.dig (y + x)).length c3)); clear hv3 hr3 hb11; go_simp))
        all_goals (
          go_wp2_with fail
          go_roundw
          case rel => exact ⟨k + 1, by go_num, by omega, Lib.hid (by rw [HEQ.out.1]; exact HV3.out), Lib.hid (by rw [HEQ.out.2]; exact HW3.out), HR3, HB3⟩
          case measure => simp [intOf]; omega)
      · have hm' : ¬ k % 2 = 0 := by omega
        have hmi : ((k : Int) % 2 == 0) = false := by rw [beq_eq_false_iff_ne]; omega
        have hmt : (Int.tmod (k : Int) 2 == 0) = false := by rw [beq_eq_false_iff_ne, Int.tmod_eq_emod_of_nonneg (by omega)]; omega
        have hmt2 : ¬ Int.tmod (k : Int) 2 = 0 := by rw [Int.tmod_eq_emod_of_nonneg (by omega)]; omega
        obtain ⟨y, hy⟩ : ∃ y, od f k = y := ⟨_, rfl⟩
        have hly := HO.out k hk
        have hlz := HO.out (k + 1) (by omega)
        have e1 : od f (k + 1) = y + x := by rw [← hx, ← hy]; exact by rw [od, if_neg hm']
        have e2 : ev f (k + 1) = ev f k := by rw [ev, if_neg hm']
        rw [e1] at hlz
        rw [hy] at hly HOd
        have HEQ := Lib.hid (And.intro e1 e2)
        obtain ⟨a, c, c1, hr⟩ := HOd.out.cell
        have q1 : wr.drew.cell? ⟨go, 0, none⟩ = some (.slice a (M.dig y).length c) := c1
        have HV := Lib.hid (show Bx wr.drew go y from HOd.out.drewN 1)
        have HW := Lib.hid (show Bx wr.drew ge (ev f k) from HEv.out.drewN 1)
        have HR1 := Lib.hid (show Bx wr.drew gr 0 from HR.out.drewN 1)
        have HB1 := Lib.hid (show Below w.heap.size w wr.drew from HB.out.drew)
        have HRY := Lib.hid (show Row wr.drew a (M.dig y) c from hr.drewN 1)
        have ht1 := HT.out k hk2 wr.drew HB1.out
        rw [hx] at ht1
        have HT1 := Lib.hid ht1
        have HLS := Lib.hid (And.intro hly hlz)
        have HLX := Lib.hid hlx
        clear hx hy hly hlz hlx e1 e2 c1 hr ht1 HOd HEv HR HB
        go_wp2_with fail
        go_region_law (first
            | (go_simp; (with_reducible refine HT1.out.mono ?_); rintro e w10 ⟨⟨a2, c2, rfl, hr2⟩, hb10⟩; have HV2 := Lib.hid (HV.out.below hb10); have q2 := (hb10.cell (p := ⟨go, 0, none⟩) (lt_of_cell q1)).trans q1; have HP := Lib.hid (plus_any a a2 c c2 y x w10 HLS.out.1 HLX.out HLS.out.2 (HRY.out.below hb10) hr2); have HW2 := Lib.hid (HW.out.below hb10); have HR2 := Lib.hid (HR1.out.below hb10); have HB2 := Lib.hid (HB1.out.trans (hb10.mono HB1.out.size)); clear hr2 hb10; go_simp)
            | (go_simp; go_at_call 38; (with_reducible refine HP.out.mono ?_); rintro e w11 ⟨⟨a3, c3, rfl, hr3⟩, hb11⟩; have hv3 := HV2.out.below hb11; obtain ⟨_, _, d1, _⟩ := hv3.cell; have d2 := hv3.free; have HV3 := Lib.hid (hv3.store hr3); have HW3 := Lib.hid ((HW2.out.below hb11).other hv3 n3 (.slice a3 (M.dig (y + x)).length c3)); have HR3 := Lib.hid ((HR2.out.below hb11).other hv3 n2 (.slice a3 (M.dig (y + x)).length c3)); have HB3 := Lib.hid ((HB2.out.trans (hb11.mono HB2.out.size)).setCell (p := ⟨go, 0, none⟩) (by show w.heap.size ≤ go; omega) (.slice a3 (M.dig (y + x)).length c3)); clear hv3 hr3 hb11; go_simp))
        all_goals (
          go_wp2_with fail
          go_roundw
          case rel => exact ⟨k + 1, by go_num, by omega, Lib.hid (by rw [HEQ.out.2]; exact HW3.out), Lib.hid (by rw [HEQ.out.1]; exact HV3.out), HR3, HB3⟩
          case measure => simp [intOf]; omega)
    · obtain rfl : k = last + 1 := by omega
      obtain ⟨x, hx⟩ : ∃ x, ev f (last + 1) = x := ⟨_, rfl⟩
      obtain ⟨y, hy⟩ : ∃ y, od f (last + 1) = y := ⟨_, rfl⟩
      have hlx := HE.out (last + 1) (Nat.le_refl _)
      have hly := HO.out (last + 1) (Nat.le_refl _)
      rw [hx] at hlx HEv
      rw [hy] at hly HOd
      obtain ⟨z, hz⟩ : ∃ z, x - y = z := ⟨_, rfl⟩
      have HZ := Lib.hid (show z = ev f (last + 1) - od f (last + 1) by rw [hx, hy]; exact hz.symm)
      obtain ⟨a, c, c1, hr1⟩ := HEv.out.cell
      obtain ⟨b, d, c2, hr2⟩ := HOd.out.cell
      have HS := Lib.hid (show Calls Tryz.prog 133 #[.agg #[.slice a (M.dig x).length c], .agg #[.slice b (M.dig y).length d]] wr fun e W' => ∃ (a' : Option Addr) (c' : Nat) (k : Int), e = .returned (.tuple #[.agg #[.slice a' (M.dig z).length c'], .int .i64 k]) ∧ Row W' a' (M.dig z) c' ∧ Below wr.heap.size wr W' from by
        by_cases h : y ≤ x
        · refine (sub_ge a b c d x y wr hlx hly hr1 hr2 h).mono ?_
          rintro e W' ⟨hres, hb⟩
          obtain ⟨v, rfl, a', c', rfl, hr⟩ := hres.ok (by exact Nat.le_trans (M.dig_len_le.2 (Nat.lt_of_le_of_lt (Nat.sub_le x y) (M.dig_len_le.1 (Nat.le_refl _)))) hlx)
          rw [hz] at hr ⊢
          exact ⟨_, _, _, rfl, hr, hb⟩
        · refine (sub_lt a b c d x y wr hlx hly hr1 hr2 (by omega)).mono ?_
          rintro e W' ⟨rfl, hb⟩
          have h0 : z = 0 := by omega
          rw [h0]
          have := row_nil W'
          rw [M.dig_zero] at this ⊢
          exact ⟨_, _, _, rfl, this, hb⟩)
      clear hx hy hlx hly hz hr1 hr2 HEv HOd
      obtain ⟨a0, c0, q0, _⟩ := HR.out.cell
      rw [M.dig_zero] at q0
      have qf := HR.out.free
      go_wp2_with fail
      (with_reducible refine HS.out.mono ?_)
      rintro e w4 ⟨a', c', kk, rfl, hr, hb⟩
      have hr4 := HR.out.below hb
      obtain ⟨w5, hw5⟩ : ∃ w5, w4.alloc (.cells #[.slice a' (M.dig z).length c'] 41) = w5 := ⟨_, rfl⟩
      have hb5 : Below w4.heap.size w4 w5 := by rw [← hw5]; exact (Below.refl _ w4).alloc (Nat.le_refl _) _
      have hv5 := Bx.new hr
      rw [hw5] at hv5
      have hr5 := hr4.below hb5
      obtain ⟨_, _, d1, _⟩ := hr5.cell
      have d2 := hr5.free
      have d3 : w5.cell? ⟨w4.heap.size, 0, none⟩ = some (.slice a' (M.dig z).length c') := by rw [← hw5]; exact cell_new _ _ _
      have HR6 := Lib.hid (hr5.store (hr.below hb5))
      have d4 : (w5.setCell ⟨gr, 0, none⟩ (.slice a' (M.dig z).length c')).cell? ⟨gr, 0, none⟩ = some (.slice a' (M.dig z).length c') := World.cell?_setCell_same' _ _ _ (by rw [d1]; rfl)
      have hr6 := (hr.below hb5).store d1 (.slice a' (M.dig z).length c')
      have HB6 := Lib.hid ((((HB.out.trans (hb.mono HB.out.size)).trans (hb5.mono (by have := HB.out.size; have := hb.size; omega)))).setCell (p := ⟨gr, 0, none⟩) (by show w.heap.size ≤ gr; omega) (.slice a' (M.dig z).length c'))
      clear hr4 hb hb5 hv5 hr5 hr HS HR HB
      go_wp2_with fail
      exact bodyPost_ret (v := .agg #[.slice a' (M.dig z).length c']) (by simp [results, Tryz.results87, go_sem, d4]) rfl ⟨⟨a', c', by rw [← HZ.out], by rw [← HZ.out]; exact hr6⟩, HB6.out⟩
end C
end Go.Proofs.YtmejneobfkbgeaaGreatDoor
