/- chance.Wrong. chance.sets. -/
import Derived.Test.YtmejneobfkbgeaaDoorB6
namespace Go.Proofs.YtmejneobfkbgeaaDoor
open Go Go.RowKit Go.Shelf

namespace C
/-- The sum of the first k terms. -/
def sm (f : Nat → Nat) : Nat → Nat
  | 0 => 0
  | k + 1 => sm f k + f k
theorem sm_succ (f : Nat → Nat) (k : Nat) : sm f (k + 1) = sm f k + f k := rfl
def f3 (n C w g o m : Nat) : Nat := nearN n C w g o m
def f2 (n C w F g o : Nat) : Nat := sm (f3 n C w g o) (F - g - o + 1)
def f1 (n C w F g : Nat) : Nat := sm (f2 n C w F g) (F - g + 1)
/-- What Wrong returns. -/
def wrongN (n C w F : Nat) : Nat := sm (f1 n C w F) (F + 1)
theorem sm_le {f : Nat → Nat} {B K : Nat} : ∀ k, k ≤ K → (∀ z, z < k → f z ≤ B) → sm f k ≤ K * B := fun k hk h => by
  have : ∀ j, j ≤ k → sm f j ≤ j * B := fun j => by
    induction j with
    | zero => intro _; simp [sm]
    | succ j ih => intro hj; rw [sm_succ, Nat.succ_mul]; exact Nat.add_le_add (ih (by omega)) (h j (by omega))
  exact Nat.le_trans (this k (Nat.le_refl _)) (Nat.mul_le_mul_right B hk)
theorem sum3_bits {a b c d B : Nat} (h1 : a ≤ 16 * (16 * (16 * 2 ^ B))) (h2 : b ≤ 16 * (16 * 2 ^ B)) (h3 : c ≤ 16 * 2 ^ B) (h4 : d ≤ 2 ^ B) : a + b + c + d ≤ 2 ^ (B + 14) := by
  rw [Nat.pow_add, show (2 : Nat) ^ 14 = 16384 from rfl]
  generalize (2 : Nat) ^ B = X at *
  omega
section
variable {n C w F g o m : Nat}
theorem f3_le (hn : n ≤ 40) (hF : F ≤ 4) (hg : g ≤ F) (ho : o ≤ F - g) (hm : m ≤ F - g - o) : f3 n C w g o m ≤ 2 ^ (EB * 6) := nearN_le hn (by omega) (by omega)
theorem s3_le (hn : n ≤ 40) (hF : F ≤ 4) (hg : g ≤ F) (ho : o ≤ F - g) (hm : m ≤ F - g - o + 1) : sm (f3 n C w g o) m ≤ 16 * 2 ^ (EB * 6) := sm_le m (by omega) (fun z hz => f3_le hn hF hg ho (by omega))
theorem s2_le (hn : n ≤ 40) (hF : F ≤ 4) (hg : g ≤ F) (ho : o ≤ F - g + 1) : sm (f2 n C w F g) o ≤ 16 * (16 * 2 ^ (EB * 6)) := sm_le o (by omega) (fun z hz => s3_le hn hF hg (by omega) (Nat.le_refl _))
theorem s1_le (hn : n ≤ 40) (hF : F ≤ 4) (hg : g ≤ F + 1) : sm (f1 n C w F) g ≤ 16 * (16 * (16 * 2 ^ (EB * 6))) := sm_le g (by omega) (fun z hz => s2_le hn hF (by omega) (by omega))
/-- The partial sums fit. -/
theorem part_len (hn : n ≤ 40) (hF : F ≤ 4) (hg : g ≤ F) (ho : o ≤ F - g) (hm : m ≤ F - g - o) :
    (M.dig (sm (f1 n C w F) g + sm (f2 n C w F g) o + sm (f3 n C w g o) m)).length ≤ 200 ∧ (M.dig (f3 n C w g o m)).length ≤ 200 ∧ (M.dig (sm (f1 n C w F) g + sm (f2 n C w F g) o + sm (f3 n C w g o) m + f3 n C w g o m)).length ≤ 200 := by
  have h1 := s1_le (C := C) (w := w) hn hF (show g ≤ F + 1 by omega)
  have h2 := s2_le (C := C) (w := w) hn hF hg (show o ≤ F - g + 1 by omega)
  have h3 := s3_le (C := C) (w := w) hn hF hg ho (show m ≤ F - g - o + 1 by omega)
  have h4 := f3_le (C := C) (w := w) hn hF hg ho hm
  refine ⟨bits_len (a := EB * 6 + 14) (sum3_bits (d := 0) h1 h2 h3 (Nat.zero_le _)) (by have := EB_eq; omega), bits_len h4 (by have := EB_eq; omega), bits_len (a := EB * 6 + 14) (sum3_bits h1 h2 h3 h4) (by have := EB_eq; omega)⟩
end

set_option maxRecDepth 100000 in
set_option maxHeartbeats 2000000 in
/-- **chance.Wrong** -/
theorem wrong_any {D C F : Nat} (hc : Ok D C F) (w : Nat) (hw : w ≤ D + C) (u : World) :
    Calls Tryd.prog 36 #[codeV D C F, .int .i64 (w : Int)] u fun e W => NumE (wrongN (D + C) C w F) e W ∧ Below u.heap.size u W := by
  have h2 := hc.d2
  have h4 := hc.c2
  have h5 := hc.f2
  have HRF := Lib.hid (fun W => refusal_yes hc w hw W)
  have HNE := Lib.hid (fun (g o m : Nat) (hg : g ≤ 8) (ho : o ≤ 8) (hm : m ≤ 8) W => near_any (F := F) h2 h4 w g o m (by omega) hg ho hm W)
  unfold codeV at *
  obtain ⟨n, hn⟩ : ∃ n, D + C = n := ⟨_, rfl⟩
  have hn40 : n ≤ 40 := by omega
  have hF4 : F ≤ 4 := by omega
  rw [hn] at HNE ⊢
  obtain ⟨R, hR⟩ : ∃ R, wrongN n C w F = R := ⟨_, rfl⟩
  have HRR := Lib.hid (show sm (f1 n C w F) (F + 1) = R from hR)
  rw [hR]
  clear hn hR
  obtain ⟨u1, hu1, hbx1, hB1, hs1⟩ := CBox.new u D C F
  have hr0 := Bx.zero u1
  obtain ⟨u3, hu3⟩ : ∃ u3, u1.alloc (.cells #[.slice none 0 0] 24) = u3 := ⟨_, rfl⟩
  have hB3 : Below u1.heap.size u1 u3 := by rw [← hu3]; exact (Below.refl _ u1).alloc (Nat.le_refl _) _
  rw [hu3] at hr0
  obtain ⟨pr, hpr⟩ : ∃ pr, u1.heap.size = pr := ⟨_, rfl⟩
  rw [hpr] at hr0
  have HCB := Lib.hid (hbx1.below hB3)
  have HR3 := Lib.hid hr0
  have hsz1 := hB1.size
  have hpr0 : u.heap.size < pr := by omega
  have HB3 := Lib.hid (hB1.trans (hB3.mono (by omega)))
  obtain ⟨k0, k1, k2, k3⟩ := HCB.out.at
  clear hbx1 hB1 hB3 hr0 hs1
  go_enter Tryd.func36, Tryd.ntmps36
  go_wp2_with fail
  (with_reducible refine (HRF.out _).mono ?_)
  rintro e u4 ⟨rfl, hb4⟩
  have hz := Bx.zero u4
  obtain ⟨u5, hu5⟩ : ∃ u5, u4.alloc (.cells #[.slice none 0 0] 24) = u5 := ⟨_, rfl⟩
  have hb5 : Below u4.heap.size u4 u5 := by rw [← hu5]; exact (Below.refl _ u4).alloc (Nat.le_refl _) _
  obtain ⟨ps, hps⟩ : ∃ ps, u4.heap.size = ps := ⟨_, rfl⟩
  rw [hu5, hps] at hz
  have hb45 := hb4.trans (hb5.mono hb4.size)
  have hlr := HR3.out.lt
  have hs4 := hb4.size
  have hne : ps ≠ pr := by omega
  have hpsu : u.heap.size < ps := by omega
  have z1 : u5.cell? ⟨ps, 0, none⟩ = some (.slice none 0 0) := by rw [← hu5, ← hps]; exact cell_new _ _ _
  have z2 := hz.free
  obtain ⟨u6, hu6⟩ : ∃ u6, u5.setCell ⟨ps, 0, none⟩ (.slice none 0 0) = u6 := ⟨_, rfl⟩
  have hz6 := hz.store (row_nil u5)
  rw [show (M.dig 0).length = 0 by rw [M.dig_zero]; rfl, hu6] at hz6
  have HS5 := Lib.hid hz6
  have hr6 := (HR3.out.below hb45).other hz hne.symm (.slice none 0 0)
  have hc6 := G.Box.other (HCB.out.below hb45) (q := ⟨ps, 0, none⟩) (by show ps ≠ u.heap.size; omega) (.slice none 0 0)
  have hb6 := (HB3.out.trans (hb45.mono HB3.out.size)).setCell (p := ⟨ps, 0, none⟩) (by show u.heap.size ≤ ps; omega) (.slice none 0 0)
  rw [hu6] at hr6 hc6 hb6
  have HR5 := Lib.hid hr6
  have HC5 := Lib.hid (show CBox u6 u.heap.size D C F from hc6)
  have HB5 := Lib.hid hb6
  obtain ⟨q0, q1, q2, q3⟩ := HC5.out.at
  clear hb4 hb5 hb45 hz hz6 hr6 hc6 hb6 HR3 HCB HB3 k0 k1 k2 k3 HRF hlr hs4
  go_wp2_with fail
  go_loopw [22] (fun i wr => ∃ g : Nat, i = .int .i64 (g : Int) ∧ g ≤ F + 1 ∧ Hid (Bx wr ps (sm (f1 n C w F) g)) ∧ Hid (Bx wr pr 0) ∧ Hid (CBox wr u.heap.size D C F) ∧ Hid (Below u.heap.size u wr)) (fun i _ => F + 1 - (intOf i).toNat)
  case atStart => exact ⟨0, rfl, Nat.zero_le _, HS5, HR5, HC5, HB5⟩
  case round => as_aux_lemma =>
    clear HS5 HR5 HC5 HB5 q0 q1 q2 q3
    obtain ⟨g, rfl, hg, HS, HR, HCB, HB⟩ := hrel
    by_cases hgF : g < F + 1
    · have hgI : (g : Int) < (F : Int) + 1 := by omega
      obtain ⟨q0, q1, q2, q3⟩ := HCB.out.at
      have e1 : (F : Int) - (g : Int) = ((F - g : Nat) : Int) := by omega
      obtain ⟨A, hA⟩ : ∃ A, F - g = A := ⟨_, rfl⟩
      rw [hA] at e1
      have hwA : IntKind.i64.wrap (A : Int) = (A : Int) := by rw [IntKind.wrap_i64]; omega
      have HA := Lib.hid hA
      clear hA
      go_wp2_with fail
      go_loopw [30] (fun i wr => ∃ o : Nat, i = .int .i64 (o : Int) ∧ o ≤ A + 1 ∧ Hid (Bx wr ps (sm (f1 n C w F) g + sm (f2 n C w F g) o)) ∧ Hid (Bx wr pr 0) ∧ Hid (CBox wr u.heap.size D C F) ∧ Hid (Below u.heap.size u wr)) (fun i _ => A + 1 - (intOf i).toNat)
      case atStart => exact ⟨0, rfl, Nat.zero_le _, HS, HR, HCB, HB⟩
      case round => as_aux_lemma =>
        clear HS HR HCB HB q0 q1 q2 q3
        obtain ⟨o, rfl, ho, HS, HR, HCB, HB⟩ := hrel
        by_cases hoA : o < A + 1
        · have hoI : (o : Int) < (A : Int) + 1 := by omega
          obtain ⟨q0, q1, q2, q3⟩ := HCB.out.at
          have e2 : (A : Int) - (o : Int) = ((A - o : Nat) : Int) := by omega
          obtain ⟨B, hB'⟩ : ∃ B, A - o = B := ⟨_, rfl⟩
          rw [hB'] at e2
          have hwB : IntKind.i64.wrap (B : Int) = (B : Int) := by rw [IntKind.wrap_i64]; omega
          have HBB := Lib.hid hB'
          clear hB'
          go_wp2_with fail
          go_loopw [40] (fun i wr => ∃ m : Nat, i = .int .i64 (m : Int) ∧ m ≤ B + 1 ∧ Hid (Bx wr ps (sm (f1 n C w F) g + sm (f2 n C w F g) o + sm (f3 n C w g o) m)) ∧ Hid (Bx wr pr 0) ∧ Hid (CBox wr u.heap.size D C F) ∧ Hid (Below u.heap.size u wr)) (fun i _ => B + 1 - (intOf i).toNat)
          case atStart => exact ⟨0, rfl, Nat.zero_le _, HS, HR, HCB, HB⟩
          case round => as_aux_lemma =>
            clear HS HR HCB HB q0 q1 q2 q3
            obtain ⟨m, rfl, hm, HS, HR, HCB, HB⟩ := hrel
            by_cases hmB : m < B + 1
            · have hmI : (m : Int) < (B : Int) + 1 := by omega
              have HLN := Lib.hid (part_len (C := C) (w := w) (g := g) (o := o) (m := m) hn40 hF4 (by omega) (by have := HA.out; omega) (by have := HA.out; have := HBB.out; omega))
              have hstep : sm (f1 n C w F) g + sm (f2 n C w F g) o + sm (f3 n C w g o) (m + 1) = sm (f1 n C w F) g + sm (f2 n C w F g) o + sm (f3 n C w g o) m + f3 n C w g o m := by rw [sm_succ]; exact (Nat.add_assoc _ _ _).symm
              obtain ⟨S, hS⟩ : ∃ S, sm (f1 n C w F) g + sm (f2 n C w F g) o + sm (f3 n C w g o) m = S := ⟨_, rfl⟩
              obtain ⟨x, hx⟩ : ∃ x, f3 n C w g o m = x := ⟨_, rfl⟩
              rw [hS] at HS HLN hstep
              rw [hx] at HLN hstep
              have HST := Lib.hid hstep
              obtain ⟨a, c, c1, hr⟩ := HS.out.cell
              obtain ⟨k0, k1, k2, k3⟩ := HCB.out.at
              have q0 : wr.drew.cell? ⟨u.heap.size, 0, none⟩ = _ := k0
              have q1 : wr.drew.cell? ⟨u.heap.size, 1, none⟩ = _ := k1
              have q2 : wr.drew.cell? ⟨u.heap.size, 2, none⟩ = _ := k2
              have q3 : wr.drew.cell? ⟨u.heap.size, 3, none⟩ = _ := k3
              have q4 : wr.drew.cell? ⟨ps, 0, none⟩ = some (.slice a (M.dig S).length c) := c1
              have hnear := HNE.out g o m (by omega) (by have := HA.out; omega) (by have := HA.out; have := HBB.out; omega) wr.drew
              rw [show nearN n C w g o m = x from hx] at hnear
              have HN1 := Lib.hid hnear
              have HRY := Lib.hid (show Row wr.drew a (M.dig S) c from hr.drewN 1)
              have HV := Lib.hid (show Bx wr.drew ps S from HS.out.drewN 1)
              have HR1 := Lib.hid (show Bx wr.drew pr 0 from HR.out.drewN 1)
              have HC1 := Lib.hid (show CBox wr.drew u.heap.size D C F from HCB.out.drewN 1)
              have HB1 := Lib.hid (show Below u.heap.size u wr.drew from HB.out.drew)
              clear hx hS hstep hnear c1 hr k0 k1 k2 k3 HS HR HCB HB
              go_wp2_with fail
              go_region_law (first
                | (go_simp; go_at_call 60; (with_reducible refine HN1.out.mono ?_); go_must (rintro e w10 ⟨⟨a2, c2, rfl, hr2⟩, hb10⟩; have HV2 := Lib.hid (HV.out.below hb10); have q5 := (hb10.cell (p := ⟨ps, 0, none⟩) (lt_of_cell q4)).trans q4; have HP := Lib.hid (plus_any a a2 c c2 S x w10 HLN.out.1 HLN.out.2.1 HLN.out.2.2 (HRY.out.below hb10) hr2); have HR2 := Lib.hid (HR1.out.below hb10); have HC2 := Lib.hid (HC1.out.below hb10); have HB2 := Lib.hid (HB1.out.trans (hb10.mono HB1.out.size)); clear hr2 hb10; go_simp))
                | (go_simp; go_at_call 13; (with_reducible refine HP.out.mono ?_); go_must (rintro e w11 ⟨⟨a3, c3, rfl, hr3⟩, hb11⟩; have hv3 := HV2.out.below hb11; obtain ⟨_, _, d1, _⟩ := hv3.cell; have d2 := hv3.free; have HV3 := Lib.hid (hv3.store hr3); have HR4 := Lib.hid ((HR2.out.below hb11).other hv3 hne.symm (.slice a3 (M.dig (S + x)).length c3)); have HC3 := Lib.hid (G.Box.other (HC2.out.below hb11) (q := ⟨ps, 0, none⟩) (by show ps ≠ u.heap.size; omega) (.slice a3 (M.dig (S + x)).length c3)); have HB3 := Lib.hid ((HB2.out.trans (hb11.mono HB2.out.size)).setCell (p := ⟨ps, 0, none⟩) (by show u.heap.size ≤ ps; omega) (.slice a3 (M.dig (S + x)).length c3)); clear hv3 hr3 hb11; go_simp)))
              all_goals (
                go_wp2_with fail
                go_roundw
                case rel => exact ⟨m + 1, by go_num, by omega, Lib.hid (by rw [HST.out]; exact HV3.out), HR4, HC3, HB3⟩
                case measure => simp [intOf]; omega)
            · have e : m = F - g - o + 1 := by have := HA.out; have := HBB.out; omega
              have HS' := Lib.hid (show Bx wr ps (sm (f1 n C w F) g + sm (f2 n C w F g) (o + 1)) from by
                have := HS.out
                rw [e] at this
                rw [sm_succ, ← Nat.add_assoc]
                exact this)
              clear HS
              go_wp2_with fail
              go_roundw
              case rel => exact ⟨o + 1, by go_num, by omega, HS', HR, HCB, HB⟩
              case measure => simp [intOf]; omega
        · have e : o = F - g + 1 := by have := HA.out; omega
          have HS' := Lib.hid (show Bx wr ps (sm (f1 n C w F) (g + 1)) from by
            have := HS.out
            rw [e] at this
            rw [sm_succ]
            exact this)
          clear HS
          go_wp2_with fail
          go_roundw
          case rel => exact ⟨g + 1, by go_num, by omega, HS', HR, HCB, HB⟩
          case measure => simp [intOf]; omega
    · obtain rfl : g = F + 1 := by omega
      have hv := HS.out
      rw [HRR.out] at hv
      obtain ⟨a2, c2, d1, hr⟩ := hv.cell
      obtain ⟨_, _, d2, _⟩ := HR.out.cell
      have d3 := HR.out.free
      have HB5 := Lib.hid (HB.out.setCell (p := ⟨pr, 0, none⟩) (by show u.heap.size ≤ pr; omega) (.slice a2 (M.dig R).length c2))
      have d4 : (wr.setCell ⟨pr, 0, none⟩ (.slice a2 (M.dig R).length c2)).cell? ⟨pr, 0, none⟩ = some (.slice a2 (M.dig R).length c2) := World.cell?_setCell_same' _ _ _ (by rw [d2]; rfl)
      have HZ := Lib.hid (hr.store d2 (.slice a2 (M.dig R).length c2))
      clear hv HS HR HB hr
      go_wp2_with fail
      exact bodyPost_ret (v := .tuple #[.agg #[.slice a2 (M.dig R).length c2], .int .i64 0]) (by simp [results, Tryd.results36, go_sem, d4]) rfl ⟨⟨a2, c2, rfl, HZ.out⟩, HB5.out⟩
end C
end Go.Proofs.YtmejneobfkbgeaaDoor

namespace Go.Proofs.YtmejneobfkbgeaaDoor
open Go Go.RowKit Go.Shelf

namespace C
open G (Box el)
def setT (odd even c : Nat) : Nat := el CL c * chI c odd * chI (72 - c) even
/-- What sets returns. -/
def setsN (odd even : Nat) : Nat := sm (setT odd even) 73
theorem prd3 (x y z : Nat) : prd [x, y, z] 3 = x * y * z := by simp [prd, nth]
/-- product(x, y, z) -/
theorem product3 {W : World} {a b c : Option Addr} {ca cb cc x y z e : Nat} (ha : Row W a (M.dig x) ca) (hb : Row W b (M.dig y) cb) (hc : Row W c (M.dig z) cc) (hx : x ≤ 2 ^ e) (hy : y ≤ 2 ^ e) (hz : z ≤ 2 ^ e) (he : e * 3 < 4800) :
    Calls Tryd.prog 10 #[.slice (some ⟨W.heap.size, 0, none⟩) 3 3] (W.alloc (.cells #[.slice a (M.dig x).length ca, .slice b (M.dig y).length cb, .slice c (M.dig z).length cc] 24)) fun e W' => NumR (x * y * z) e W' ∧ Below W.heap.size W W' := by
  have h := productV (W := W) (xs := [x, y, z]) (vs := [.slice a (M.dig x).length ca, .slice b (M.dig y).length cb, .slice c (M.dig z).length cc]) (b := e) (fun j hj => by
    match j, hj with
    | 0, _ => exact ⟨a, ca, rfl, ha⟩
    | 1, _ => exact ⟨b, cb, rfl, hb⟩
    | 2, _ => exact ⟨c, cc, rfl, hc⟩) (fun j hj => by
    match j, hj with
    | 0, _ => exact hx
    | 1, _ => exact hy
    | 2, _ => exact hz) he (by omega) (show 3 ≤ 100 by omega)
  rw [show [x, y, z].length = 3 from rfl, prd3] at h
  exact h
theorem CL_le : ∀ c, c < 73 → el CL c ≤ 256 := by decide +kernel
theorem setT_le (odd even c : Nat) (hc : c < 73) : setT odd even c ≤ 2 ^ 156 := by
  have h1 : el CL c ≤ 2 ^ 8 := CL_le c hc
  have h2 := Nat.le_trans (Nat.le_of_lt (chI_len c (odd : Int))) (Nat.pow_le_pow_right (by omega) (show c + 1 ≤ 74 by omega))
  have h3 := Nat.le_trans (Nat.le_of_lt (chI_len (72 - c) (even : Int))) (Nat.pow_le_pow_right (by omega) (show 72 - c + 1 ≤ 74 by omega))
  exact mul_bits (mul_bits h1 h2) h3
theorem sets_part (odd even k : Nat) (hk : k ≤ 73) : sm (setT odd even) k ≤ 128 * 2 ^ 156 := sm_le k (by omega) (fun z hz => setT_le odd even z (by omega))
theorem bits128 {x B : Nat} (h : x ≤ 128 * 2 ^ B) : x ≤ 2 ^ (B + 7) := by rw [Nat.pow_add, Nat.mul_comm]; exact h
theorem index_arrN (l : List Nat) (hl : l.length = 73) (k : Nat) (hk : k < 73) (W : World) : Sem.run Tryd.prog (Instr.index 32 (.agg (arrN l)) (.int .i64 (k : Int))) W = .ok (.int .i64 ((el l k : Nat) : Int)) W := by
  have h1 : (0 : Int) ≤ (k : Int) ∧ (k : Int) < 73 := by omega
  have h2 : (arrN l)[k]? = some (.int .i64 ((el l k : Nat) : Int)) := by
    have := vsN_at (l := l) (k := k) (by omega)
    unfold arrN
    rw [List.getElem?_toArray]; exact this
  simp [Instr.index, asIntOf, part, Tryd.sizeOf3, Tryd.isAgg3, h2]
  intro h
  omega
/-- Boxes of a number each. -/
theorem Bx.make (W : World) : ∃ (g : Nat) (W1 W2 : World), W.heap.size = g ∧ W.alloc (.cells #[.slice none 0 0] 24) = W1 ∧ W1.cell? ⟨g, 0, none⟩ = some (.slice none 0 0) ∧ W1.frozen? ⟨g, 0, none⟩ = false ∧ W1.setCell ⟨g, 0, none⟩ (.slice none 0 0) = W2 ∧ Bx W2 g 0 ∧ Below W.heap.size W W2 ∧ W2.heap.size = W.heap.size + 1 := by
  have hz := Bx.zero W
  have h6 := hz.store (row_nil _)
  rw [show (M.dig 0).length = 0 by rw [M.dig_zero]; rfl] at h6
  exact ⟨_, _, _, rfl, rfl, cell_new _ _ _, hz.free, rfl, h6, ((Below.refl _ W).alloc (Nat.le_refl _) _).setCell (p := ⟨W.heap.size, 0, none⟩) (Nat.le_refl _) _, by rw [World.size_setCell, World.size_alloc]⟩

set_option maxRecDepth 100000 in
set_option maxHeartbeats 4000000 in
/-- **chance.sets** -/
theorem sets_any (odd even : Nat) (_ho : odd ≤ 73) (_he : even ≤ 73) (u : World) :
    Calls Tryd.prog 28 #[.agg (arrN CNT), .int .i64 (odd : Int), .int .i64 (even : Int)] u fun e W => NumR (setsN odd even) e W ∧ Below u.heap.size u W := by
  rw [CNT_eq]
  have IX := Lib.hid (index_arrN CL rfl)
  obtain ⟨av, hav⟩ : ∃ v, arrN CL = v := ⟨_, rfl⟩
  have hsz : av.size = 73 := by rw [← hav, arrN_size]; rfl
  have HSZ := Lib.hid (show (Tryd.prog.info? 32).map (·.size) = some av.size by rw [size_arrN, hsz])
  rw [hav] at IX ⊢
  clear hav hsz
  obtain ⟨u1, hu1⟩ : ∃ u1, u.alloc (.cells av 32) = u1 := ⟨_, rfl⟩
  have hrow : u1.heap[u.heap.size]? = some (.cells av 32 (0, 0)) := by rw [← hu1]; exact heap_alloc_new _ _
  have hB1 : Below u.heap.size u u1 := by rw [← hu1]; exact (Below.refl _ u).alloc (Nat.le_refl _) _
  have hs1 : u1.heap.size = u.heap.size + 1 := by rw [← hu1]; exact World.size_alloc _ _
  have hr0 := Bx.zero u1
  obtain ⟨u2, hu2⟩ : ∃ u2, u1.alloc (.cells #[.slice none 0 0] 24) = u2 := ⟨_, rfl⟩
  have hB2 : Below u1.heap.size u1 u2 := by rw [← hu2]; exact (Below.refl _ u1).alloc (Nat.le_refl _) _
  obtain ⟨pr, hpr⟩ : ∃ pr, u1.heap.size = pr := ⟨_, rfl⟩
  rw [hu2, hpr] at hr0
  obtain ⟨ps, u3, u4, hps, hu3, z1, z2, hu4, hbs, hB4, hs4⟩ := Bx.make u2
  have hlr := hr0.lt
  have hne : ps ≠ pr := by omega
  have HS4 := Lib.hid hbs
  have HR4 := Lib.hid (hr0.below hB4)
  have hupr : u.heap.size < pr := by omega
  have hup : u.heap.size < ps := by omega
  have HROW := Lib.hid (show u4.heap[u.heap.size]? = some (.cells av 32 (0, 0)) from (hB4.block _ (by omega)).trans ((hB2.block _ (by omega)).trans hrow))
  have HB4 := Lib.hid ((hB1.trans (hB2.mono (by omega))).trans (hB4.mono (by have := hB2.size; omega)))
  obtain ⟨R, hR⟩ : ∃ R, setsN odd even = R := ⟨_, rfl⟩
  have HRR := Lib.hid (show sm (setT odd even) 73 = R from hR)
  rw [hR]
  clear hr0 hbs hB1 hB2 hB4 hs1 hs4 hrow hlr hR
  go_enter Tryd.func28, Tryd.ntmps28
  go_wp2_with (refine wpList_load_row rfl 32 _ rfl u.heap.size rfl 32 av (0, 0) _ HROW.out Tryd.underlying32 rfl HSZ.out ?_)
  go_loopw [12] (fun i wr => ∃ k : Nat, i = .int .i64 (k : Int) ∧ k ≤ 73 ∧ Hid (Bx wr ps (sm (setT odd even) k)) ∧ Hid (Bx wr pr 0) ∧ Hid (Below u.heap.size u wr)) (fun i _ => 73 - (intOf i).toNat)
  case atStart => exact ⟨0, rfl, by omega, HS4, HR4, HB4⟩
  case round => as_aux_lemma =>
    clear HS4 HR4 HB4 HROW HSZ
    obtain ⟨k, rfl, hk, HS, HR, HB⟩ := hrel
    by_cases hlt : k < 73
    · have hkI : (k : Int) < 73 := by omega
      have ix := IX.out k hlt
      have hstep : sm (setT odd even) (k + 1) = sm (setT odd even) k + el CL k * chI k odd * chI (72 - k) even := rfl
      have hb1 := sets_part odd even k (by omega)
      have hb2 := setT_le odd even k hlt
      have hb3 := sets_part odd even (k + 1) (by omega)
      have hc := CL_le k hlt
      rw [hstep] at hb3
      obtain ⟨S, hS⟩ : ∃ S, sm (setT odd even) k = S := ⟨_, rfl⟩
      obtain ⟨c, hcc⟩ : ∃ c, el CL k = c := ⟨_, rfl⟩
      rw [hS] at HS hb1 hb3 hstep
      rw [hcc] at ix hb3 hstep hc
      unfold setT at hb2
      rw [hcc] at hb2
      by_cases h0 : c = 0
      · subst h0
        have hst : sm (setT odd even) (k + 1) = S := by rw [hstep]; simp
        have HST := Lib.hid hst
        have hz : ((0 : Nat) : Int) = 0 := rfl
        rw [hz] at ix
        clear hstep hst hS hb1 hb2 hb3 hcc hz hc
        go_wp2_with fail
        go_roundw
        case rel => exact ⟨k + 1, by go_num, by omega, Lib.hid (by rw [HST.out]; exact HS.out), HR, HB⟩
        case measure => simp [intOf]; omega
      · have hpos : (0 : Int) < (c : Int) := by omega
        have HST := Lib.hid hstep
        have HN1 := Lib.hid (fun W => number_any c W (by omega))
        have HC1 := Lib.hid (fun W => (show Calls Tryd.prog 49 #[.int .i64 (k : Int), .int .i64 (odd : Int)] W fun e W' => NumR (chI k odd) e W' ∧ Below W.heap.size W W' from by
          have h := choose_any (k : Int) (odd : Int) W (by omega)
          rwa [if_neg (by omega), Int.toNat_natCast] at h))
        obtain ⟨m, hm⟩ : ∃ m : Nat, 72 - k = m := ⟨_, rfl⟩
        have hmI : (72 : Int) - (k : Int) = (m : Int) := by omega
        have hwm : IntKind.i64.wrap (m : Int) = (m : Int) := by rw [IntKind.wrap_i64]; omega
        have HC2 := Lib.hid (fun W => (show Calls Tryd.prog 49 #[.int .i64 (m : Int), .int .i64 (even : Int)] W fun e W' => NumR (chI m even) e W' ∧ Below W.heap.size W W' from by
          have h := choose_any (m : Int) (even : Int) W (by omega)
          rwa [if_neg (by omega), Int.toNat_natCast] at h))
        rw [hm] at HST hb2 hb3
        have HBC := Lib.hid (show c ≤ 2 ^ 156 ∧ chI k odd ≤ 2 ^ 156 ∧ chI m even ≤ 2 ^ 156 from
          ⟨Nat.le_trans (show c ≤ 2 ^ 8 from hc) (Nat.pow_le_pow_right (by omega) (by omega)), Nat.le_trans (Nat.le_of_lt (chI_len k (odd : Int))) (Nat.pow_le_pow_right (by omega) (by omega)), Nat.le_trans (Nat.le_of_lt (chI_len m (even : Int))) (Nat.pow_le_pow_right (by omega) (by omega))⟩)
        obtain ⟨x1, hx1⟩ : ∃ x, chI k odd = x := ⟨_, rfl⟩
        obtain ⟨x2, hx2⟩ : ∃ x, chI m even = x := ⟨_, rfl⟩
        simp only [hx1] at HST HC1 HBC hb2 hb3
        simp only [hx2] at HST HC2 HBC hb2 hb3
        have HLN := Lib.hid (show (M.dig S).length ≤ 200 ∧ (M.dig (c * x1 * x2)).length ≤ 200 ∧ (M.dig (S + c * x1 * x2)).length ≤ 200 from
          ⟨bits_len (bits128 hb1) (by omega), bits_len hb2 (by omega), bits_len (bits128 hb3) (by omega)⟩)
        obtain ⟨a, ca, c1, hr⟩ := HS.out.cell
        have q4 : wr.drew.cell? ⟨ps, 0, none⟩ = some (.slice a (M.dig S).length ca) := c1
        have HRY := Lib.hid (show Row wr.drew a (M.dig S) ca from hr.drewN 1)
        have HV := Lib.hid (show Bx wr.drew ps S from HS.out.drewN 1)
        have HR1 := Lib.hid (show Bx wr.drew pr 0 from HR.out.drewN 1)
        have HB1 := Lib.hid (show Below u.heap.size u wr.drew from HB.out.drew)
        clear hx1 hx2 hm hS hcc hstep hb1 hb2 hb3 c1 hr HS HR HB h0 IX hc
        go_wp2_with fail
        go_region_law (first
          | (go_simp; go_at_call 11; (with_reducible refine (HN1.out _).mono ?_); go_must (rintro e w10 ⟨⟨a0, c0, rfl, r0⟩, hb10⟩; have q5 := (hb10.cell (p := ⟨ps, 0, none⟩) (lt_of_cell q4)).trans q4; have R0 := Lib.hid r0; have HB10 := Lib.hid hb10; clear r0 hb10; go_simp))
          | (go_simp; go_at_call 49; (with_reducible refine (HC1.out _).mono ?_); go_must (rintro e w11 ⟨⟨a1, c1, rfl, r1⟩, hb11⟩; have q6 := (hb11.cell (p := ⟨ps, 0, none⟩) (lt_of_cell q5)).trans q5; have R1 := Lib.hid r1; have R01 := Lib.hid (R0.out.below hb11); have HB11 := Lib.hid (HB10.out.trans (hb11.mono HB10.out.size)); clear r1 hb11; go_simp))
          | (go_simp; go_at_call 49; (with_reducible refine (HC2.out _).mono ?_); go_must (rintro e w12 ⟨⟨a2, c2, rfl, r2⟩, hb12⟩; have q7 := (hb12.cell (p := ⟨ps, 0, none⟩) (lt_of_cell q6)).trans q6; have q7b := cell_later (.cells #[.slice a0 (M.dig c).length c0, .slice a1 (M.dig x1).length c1, .slice a2 (M.dig x2).length c2] 24) q7; have HPR := Lib.hid (product3 (R01.out.below hb12) (R1.out.below hb12) r2 HBC.out.1 HBC.out.2.1 HBC.out.2.2 (by omega)); have HB12 := Lib.hid (HB11.out.trans (hb12.mono HB11.out.size)); clear r2 hb12; go_simp))
          | (go_simp; go_at_call 10; (with_reducible refine HPR.out.mono ?_); go_must (rintro e w13 ⟨⟨a3, c3, rfl, r3⟩, hb13⟩; have hb := HB12.out.trans (hb13.mono HB12.out.size); have q8 := (hb.cell (p := ⟨ps, 0, none⟩) (lt_of_cell q4)).trans q4; have HP := Lib.hid (plus_any a a3 ca c3 S (c * x1 * x2) w13 HLN.out.1 HLN.out.2.1 HLN.out.2.2 (HRY.out.below hb) r3); have HV2 := Lib.hid (HV.out.below hb); have HR2 := Lib.hid (HR1.out.below hb); have HB2 := Lib.hid (HB1.out.trans (hb.mono HB1.out.size)); clear r3 hb13 hb; go_simp))
          | (go_simp; go_at_call 13; (with_reducible refine HP.out.mono ?_); go_must (rintro e w14 ⟨⟨a4, c4, rfl, hr3⟩, hb11⟩; have hv3 := HV2.out.below hb11; obtain ⟨_, _, d1, _⟩ := hv3.cell; have d2 := hv3.free; have HV3 := Lib.hid (hv3.store hr3); have HR4 := Lib.hid ((HR2.out.below hb11).other hv3 hne.symm (.slice a4 (M.dig (S + c * x1 * x2)).length c4)); have HB3 := Lib.hid ((HB2.out.trans (hb11.mono HB2.out.size)).setCell (p := ⟨ps, 0, none⟩) (by show u.heap.size ≤ ps; omega) (.slice a4 (M.dig (S + c * x1 * x2)).length c4)); clear hv3 hr3 hb11; go_simp)))
        all_goals (
          go_wp2_with fail
          go_roundw
          case rel => exact ⟨k + 1, by go_num, by omega, Lib.hid (by rw [HST.out]; exact HV3.out), HR4, HB3⟩
          case measure => simp [intOf]; omega)
    · obtain rfl : k = 73 := by omega
      have hv := HS.out
      rw [HRR.out] at hv
      obtain ⟨a2, c2, d1, hr⟩ := hv.cell
      obtain ⟨_, _, d2, _⟩ := HR.out.cell
      have d3 := HR.out.free
      have HB5 := Lib.hid (HB.out.setCell (p := ⟨pr, 0, none⟩) (by show u.heap.size ≤ pr; omega) (.slice a2 (M.dig R).length c2))
      have d4 : (wr.setCell ⟨pr, 0, none⟩ (.slice a2 (M.dig R).length c2)).cell? ⟨pr, 0, none⟩ = some (.slice a2 (M.dig R).length c2) := World.cell?_setCell_same' _ _ _ (by rw [d2]; rfl)
      have HZ := Lib.hid (hr.store d2 (.slice a2 (M.dig R).length c2))
      clear hv HS HR HB hr
      go_wp2_with fail
      exact bodyPost_ret (v := .agg #[.slice a2 (M.dig R).length c2]) (by simp [results, Tryd.results28, go_sem, d4]) rfl ⟨⟨a2, c2, rfl, HZ.out⟩, HB5.out⟩
end C
end Go.Proofs.YtmejneobfkbgeaaDoor
