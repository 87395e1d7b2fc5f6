/- The reference's Sub. -/
import Derived.Test.YtknjoajeilgieaaDoorBRefSum
import Derived.Test.YtknjoajeilgieaaDoorB11
namespace Go.Proofs.YtknjoajeilgieaaDoor
open Go Go.RowKit Go.Shelf

set_option maxRecDepth 100000 in
set_option maxHeartbeats 1000000 in
/-- **ref01.fit** of nil. -/
theorem rfit_nil (w : World) :
    Calls Tryd.prog 48 #[.slice none 0 0] w fun e W' => NatRes 0 e W' ∧ Below w.heap.size w W' := by
  have HB := Lib.hid ((Below.refl _ w).alloc (Nat.le_refl _) (.cells #[.slice none 0 0] 24))
  have c2 := cell_new w (.slice none 0 0) 24
  have f2 := frozen_new w (.slice none 0 0) 24
  go_enter Tryd.func48, Tryd.ntmps48
  go_wp2_with fail
  go_loop [4] (fun i => i = .int .i64 0) (fun _ => 0)
  case atStart => rfl
  case round =>
    obtain rfl := hrel
    go_wp2_with fail
    refine bodyPost_ret (v := .tuple #[.agg #[.slice none 0 0], .int .i64 0]) (by simp [results, Tryd.results48, go_sem, c2]) rfl ⟨natRes_ok (by rw [M.dig_zero]; simp) ⟨none, 0, by rw [M.dig_zero]; rfl, row_nil _⟩, HB.out⟩

theorem M.rsub_step {V P q s t A B v q' : Int} (h : V + P * (-q) = A + -B) (hv : v + 16777216 * (-q') = s - t - q) : (V + P * v) + P * 16777216 * (-q') = (A + P * s) + -(B + P * t) := by
  have e : P * v + P * 16777216 * (-q') = P * (s - t - q) := by rw [← hv, Int.mul_add, Int.mul_assoc]
  have e2 : P * (s - t - q) = P * s - P * t + P * (-q) := by rw [Int.mul_sub, Int.mul_sub, Int.mul_neg]; omega
  omega

def RSubRel (w w3 : World) (N x y : Nat) (l c i : Value) (W : World) : Prop :=
  ∃ (k : Nat) (zs : List Int) (q : Int) (a : Option Addr) (cap : Nat), l = .slice a zs.length cap ∧ c = .int .i64 q ∧ i = .int .i64 (k : Int) ∧ k ≤ N ∧ zs.length = k ∧ M.Lim zs ∧ 0 ≤ q ∧ q ≤ 1 ∧
    M.val zs + 16777216 ^ k * (-q) = M.val ((M.dig x).take k) + -M.val ((M.dig y).take k) ∧ Own W (w.heap.size + 3) (.slice a zs.length cap) zs ∧ Below w3.heap.size w3 W

set_option maxRecDepth 100000 in
set_option maxHeartbeats 2000000 in
theorem rsub_lt (a b : Option Addr) (ca cb x y : Nat) (w : World) (hx200 : (M.dig x).length ≤ 200) (hy200 : (M.dig y).length ≤ 200) (hA : Row w a (M.dig x) ca) (hB : Row w b (M.dig y) cb) (hlt : x < y) :
    Calls Tryd.prog 27 #[.agg #[.slice a (M.dig x).length ca], .agg #[.slice b (M.dig y).length cb]] w fun e W' => e = .returned (.tuple #[.agg #[.slice none 0 0], .int .i64 5]) ∧ Below w.heap.size w W' := by
  have Hvx := Lib.hid (vld_dig hx200)
  have Hvy := Lib.hid (vld_dig hy200)
  have hb3 := boxes_below w (.slice a (M.dig x).length ca) (.slice b (M.dig y).length cb)
  have hs3 := boxes_size w (.slice a (M.dig x).length ca) (.slice b (M.dig y).length cb)
  obtain ⟨c0, c1, c2, f2⟩ := boxes_cells w (.slice a (M.dig x).length ca) (.slice b (M.dig y).length cb)
  have HA := Lib.hid (hA.below hb3)
  have HB := Lib.hid (hB.below hb3)
  have HB3 := Lib.hid hb3
  clear hA hB hb3
  go_enter Tryd.func27, Tryd.ntmps27
  go_wp2_with fail
  generalize hw3 : (((w.alloc (.cells #[.slice a (M.dig x).length ca] 24)).alloc (.cells #[.slice b (M.dig y).length cb] 24)).alloc (.cells #[.slice none 0 0] 24)) = w3
  obtain rfl : boxes w (.slice a (M.dig x).length ca) (.slice b (M.dig y).length cb) = w3 := hw3
  generalize boxes w (.slice a (M.dig x).length ca) (.slice b (M.dig y).length cb) = w3 at *
  refine (rvalid_yes a _ ca _ HA.out Hvx.out).mono ?_
  rintro e w5 ⟨rfl, hb5⟩
  have HC := Lib.hid (And.intro c0 (And.intro c1 (And.intro c2 f2)))
  have d1 := cell_below hb5 c1
  have HB5 := Lib.hid hb5
  clear c0 c1 c2 f2 hb5
  go_wp2_with fail
  refine (rvalid_yes b _ cb _ (HB.out.below HB5.out) Hvy.out).mono ?_
  rintro e w6 ⟨rfl, hb6⟩
  have hb36 := HB5.out.trans (hb6.mono HB5.out.size)
  have c0 := cell_below hb36 HC.out.1
  have c1 := cell_below hb36 HC.out.2.1
  have HB6 := Lib.hid hb36
  clear d1 hb6 hb36 HB5
  go_wp2_with fail
  refine (rcmp_any a b ca cb x y _ (HA.out.below HB6.out) (HB.out.below HB6.out)).mono ?_
  rintro e w7 ⟨rfl, hb7⟩
  rw [compare_lt (by omega)]
  have hb37 := HB6.out.trans (hb7.mono HB6.out.size)
  have d2 := cell_below hb37 HC.out.2.2.1
  have g2 := frozen_below hb37 HC.out.2.2.1 HC.out.2.2.2
  have HB7 := Lib.hid (HB3.out.trans (hb37.mono (by omega)))
  clear hb7 hb37 c0 c1 HB6
  go_wp2_with fail
  refine bodyPost_ret (v := .tuple #[.agg #[.slice none 0 0], .int .i64 5]) (by simp [results, Tryd.results27, go_sem, d2]) rfl ⟨rfl, HB7.out.setCell (p := ⟨w.heap.size + 1 + 1, 0, none⟩) (by simp; omega) _⟩

set_option maxRecDepth 100000 in
set_option maxHeartbeats 2000000 in
theorem rsub_ge (a b : Option Addr) (ca cb x y : Nat) (w : World) (hx200 : (M.dig x).length ≤ 200) (hy200 : (M.dig y).length ≤ 200) (hA : Row w a (M.dig x) ca) (hB : Row w b (M.dig y) cb) (hle : y ≤ x) :
    Calls Tryd.prog 27 #[.agg #[.slice a (M.dig x).length ca], .agg #[.slice b (M.dig y).length cb]] w fun e W' => NatRes (x - y) e W' ∧ Below w.heap.size w W' := by
  have Hvx := Lib.hid (vld_dig hx200)
  have Hvy := Lib.hid (vld_dig hy200)
  have hlen2 := M.dig_len_mono hle
  have hroomA := hA.room
  have hmostA := hA.most
  have hb3 := boxes_below w (.slice a (M.dig x).length ca) (.slice b (M.dig y).length cb)
  have hs3 := boxes_size w (.slice a (M.dig x).length ca) (.slice b (M.dig y).length cb)
  obtain ⟨c0, c1, c2, f2⟩ := boxes_cells w (.slice a (M.dig x).length ca) (.slice b (M.dig y).length cb)
  have HA := Lib.hid (hA.below hb3)
  have HB := Lib.hid (hB.below hb3)
  have HB3 := Lib.hid hb3
  have hcmp : ¬ Lib.compareInt (x : Int) (y : Int) < 0 := by
    rcases Nat.lt_or_ge y x with h | h
    · rw [compare_gt (by omega)]; decide
    · rw [compare_eq (by omega)]; decide
  have HCMP := Lib.hid hcmp
  have hr200 : (M.dig (x - y)).length ≤ 200 := Nat.le_trans (M.dig_len_mono (Nat.sub_le x y)) hx200
  clear hA hB hb3 hcmp
  go_enter Tryd.func27, Tryd.ntmps27
  go_wp2_with fail
  generalize hw3 : (((w.alloc (.cells #[.slice a (M.dig x).length ca] 24)).alloc (.cells #[.slice b (M.dig y).length cb] 24)).alloc (.cells #[.slice none 0 0] 24)) = w3
  obtain rfl : boxes w (.slice a (M.dig x).length ca) (.slice b (M.dig y).length cb) = w3 := hw3
  generalize boxes w (.slice a (M.dig x).length ca) (.slice b (M.dig y).length cb) = w3 at *
  refine (rvalid_yes a _ ca _ HA.out Hvx.out).mono ?_
  rintro e w5 ⟨rfl, hb5⟩
  have HC := Lib.hid (And.intro c0 (And.intro c1 (And.intro c2 f2)))
  have d1 := cell_below hb5 c1
  have HB5 := Lib.hid hb5
  clear c0 c1 c2 f2 hb5
  go_wp2_with fail
  refine (rvalid_yes b _ cb _ (HB.out.below HB5.out) Hvy.out).mono ?_
  rintro e w6 ⟨rfl, hb6⟩
  have hb36 := HB5.out.trans (hb6.mono HB5.out.size)
  have c0 := cell_below hb36 HC.out.1
  have c1 := cell_below hb36 HC.out.2.1
  have HB6 := Lib.hid hb36
  clear d1 hb6 hb36 HB5
  go_wp2_with fail
  refine (rcmp_any a b ca cb x y _ (HA.out.below HB6.out) (HB.out.below HB6.out)).mono ?_
  rintro e w7 ⟨rfl, hb7⟩
  have HB7 := Lib.hid (HB6.out.trans (hb7.mono HB6.out.size))
  have hcmp := HCMP.out
  generalize Lib.compareInt (x : Int) (y : Int) = cc at *
  have c0 := cell_below HB7.out HC.out.1
  have c1 := cell_below HB7.out HC.out.2.1
  clear hb7 HB6
  go_wp2_with fail
  clear c0 c1 hcmp
  go_loopw [6, 7, 8] (fun l c i wr => RSubRel w w3 (M.dig x).length x y l c i wr) (fun _ _ i _ => (M.dig x).length - (intOf i).toNat)
  case atStart => exact ⟨0, [], 0, none, 0, rfl, rfl, rfl, by omega, rfl, M.Lim.nil, by omega, by omega, by simp [M.val], Own.nil _ _, HB7.out⟩
  case round =>
    clear HB7
    obtain ⟨k, zs, q, al, cl, rfl, rfl, rfl, hk, hlen, hlim, hq0, hq1, hval, hown, hbW⟩ := hrel
    have c0 := cell_below hbW HC.out.1
    have c1 := cell_below hbW HC.out.2.1
    have c2 := cell_below hbW HC.out.2.2.1
    have f2 := frozen_below hbW HC.out.2.2.1 HC.out.2.2.2
    have HRA := Lib.hid (HA.out.below hbW)
    have HRB := Lib.hid (HB.out.below hbW)
    have HBW := Lib.hid hbW
    have HVAL := Lib.hid hval
    have HLN := Lib.hid hlen
    have HLIM := Lib.hid hlim
    have HOWN := Lib.hid hown
    have hsW := hbW.size
    clear hval hlen hlim hown hbW
    by_cases hlt : k < (M.dig x).length
    · have h1 := (M.lim_dig x).get k
      have h2 := (M.lim_dig y).get k
      obtain ⟨ba, offa, rfl, hca⟩ := HRA.out.el k hlt
      have HLB := Lib.hid (fun (W : World) (hb : Below wr.heap.size wr W) => rlimb_any b (M.dig y) cb k W (HRB.out.below hb))
      obtain ⟨sx, hsx⟩ : ∃ sx, M.el (M.dig x) k = sx := ⟨_, rfl⟩
      obtain ⟨sy, hsy⟩ : ∃ sy, M.el (M.dig y) k = sy := ⟨_, rfl⟩
      rw [hsx] at h1 hca
      rw [hsy] at h2 HLB
      obtain ⟨t, ht⟩ : ∃ t, t = sx - sy := ⟨_, rfl⟩
      obtain ⟨v, hv⟩ : ∃ v, v = t - q := ⟨_, rfl⟩
      have hw1 : IntKind.i64.wrap (sx - sy) = t := by rw [IntKind.wrap_i64]; omega
      have hw2 : IntKind.i64.wrap (t - q) = v := by rw [IntKind.wrap_i64]; omega
      have hv0 : -16777216 ≤ v := by omega
      have hv1 : v ≤ 16777215 := by omega
      have hvv : v = sx - sy - q := by omega
      have HSX := Lib.hid hsx
      have HSY := Lib.hid hsy
      have HVV := Lib.hid hvv
      have hbd : Below wr.heap.size wr wr.drew := belowN (Below.refl _ _) 1
      clear hsx hsy ht hv hvv h1 h2
      go_wp2_with fail
      go_region_held3 (fun w' => w'.cell? ⟨w.heap.size, 0, none⟩ = some (.slice (some ⟨ba, offa, none⟩) (M.dig x).length ca) ∧ w'.cell? ⟨w.heap.size + 1, 0, none⟩ = some (.slice b (M.dig y).length cb) ∧ w'.cell? ⟨ba, offa + k, none⟩ = some (.int .i64 sx))
        (first | exact ⟨c0, c1, hca⟩ | exact ⟨cell_below hb1 c0, cell_below hb1 c1, cell_below hb1 hca⟩)
        (first | (go_at_call 47; (with_reducible refine (HLB.out _ hbd).mono ?_); rintro e wb ⟨rfl, hb1⟩))
      have HO2 := Lib.hid (HOWN.out.below (hbd.trans (hb1.mono (Nat.le_refl _))))
      have HB2 := Lib.hid (HBW.out.trans ((hbd.trans (hb1.mono (Nat.le_refl _))).mono hsW))
      have hwb : w.heap.size + 3 ≤ wb.heap.size := by have := (hbd.trans (hb1.mono (Nat.le_refl _))).size; omega
      have hln : zs.length < 1000 := by rw [HLN.out]; omega
      clear hw1 hw2 hb1 hbd HLB HRA HRB c0 c1 c2 f2 hca
      try clear hHeld
      by_cases hneg : v < 0
      · skip
        go_wp2_with (at_builtin; refine wpList_app1 rfl _ _ rfl rfl (HO2.out.alloc _) rfl (cell_new _ _ _) (by omega) (by simp; omega) ?_; intro a' cap' W' hown' hb')
        go_roundw
        case rel =>
          refine ⟨k + 1, zs ++ [v + 16777216], 1, a', cap', by rw [List.length_append]; rfl, rfl, by go_num, by omega, by rw [List.length_append, HLN.out]; rfl, HLIM.out.append (M.Lim.cons (by omega) (by omega) M.Lim.nil), by omega, by omega, ?_, hown', ?_⟩
          · rw [M.val_append, HLN.out, M.val_take_succ', M.val_take_succ', Int.pow_succ, HSX.out, HSY.out]
            simp only [M.val, Int.mul_zero, Int.add_zero]
            exact M.rsub_step HVAL.out (by have := HVV.out; omega)
          · have := HB2.out.alloc HB2.out.size (.cells #[.int .i64 (v + 16777216)] 3)
            exact this.trans (hb'.mono (by omega))
        case measure => simp [intOf]; omega
      · skip
        go_wp2_with (at_builtin; refine wpList_app1 rfl _ _ rfl rfl (HO2.out.alloc _) rfl (cell_new _ _ _) (by omega) (by simp; omega) ?_; intro a' cap' W' hown' hb')
        go_roundw
        case rel =>
          refine ⟨k + 1, zs ++ [v], 0, a', cap', by rw [List.length_append]; rfl, rfl, by go_num, by omega, by rw [List.length_append, HLN.out]; rfl, HLIM.out.append (M.Lim.cons (by omega) (by omega) M.Lim.nil), by omega, by omega, ?_, hown', ?_⟩
          · rw [M.val_append, HLN.out, M.val_take_succ', M.val_take_succ', Int.pow_succ, HSX.out, HSY.out]
            simp only [M.val, Int.mul_zero, Int.add_zero]
            exact M.rsub_step HVAL.out (by have := HVV.out; omega)
          · have := HB2.out.alloc HB2.out.size (.cells #[.int .i64 (v)] 3)
            exact this.trans (hb'.mono (by omega))
        case measure => simp [intOf]; omega
    · have hk' : k = (M.dig x).length := by omega
      have hv0 := HVAL.out
      rw [List.take_of_length_le (by omega), List.take_of_length_le (by omega), M.val_dig, M.val_dig, hk'] at hv0
      have hend : M.trimL zs = M.dig (x - y) := sub_end (n := (M.dig x).length) (c := -q) HLIM.out (by rw [HLN.out]; exact hk') hle (by omega) (by omega) (by rw [hv0]; omega)
      have hlt2 : w.heap.size + 1 + 1 < wr.heap.size := by omega
      have HCALL : Hid (Calls Tryd.prog 48 #[.slice al zs.length cl] wr fun e W' => NatRes (x - y) e W' ∧ Below wr.heap.size wr W') := by
        rcases HOWN.out.parts with ⟨e, rfl⟩ | ⟨g, c', e, _⟩
        · have hxy : x - y = 0 := by
            have : M.trimL ([] : List Int) = [] := rfl
            rw [this] at hend
            exact M.dig_nil.1 hend.symm
          rw [hxy, e]
          exact rfit_nil wr
        · cases e
          refine (rfit_trim g 0 zs cl (x - y) wr HOWN.out.rowAt hend).mono ?_
          rintro e W' ⟨hres, hb⟩
          obtain ⟨v, rfl, a7, p7, rfl, hr7, _⟩ := hres.ok hr200
          exact ⟨natRes_ok hr200 ⟨a7, p7, rfl, hr7⟩, hb⟩
      clear hv0 hend HRA HRB c1
      go_wp2_with fail
      (with_reducible refine HCALL.out.mono ?_)
      rintro e w7 ⟨hres, hb7⟩
      have d2 := cell_below hb7 c2
      have g2 := frozen_below hb7 c2 f2
      have hB7 := (HB3.out.trans (HBW.out.mono (by omega))).trans (hb7.mono (by omega))
      have HB7 := Lib.hid hB7
      clear hB7 hb7 c2 f2
      obtain ⟨v, rfl, a7, p7, rfl, hr7⟩ := hres.ok hr200
      have HR7 := Lib.hid (hr7.store d2 (.slice a7 (M.dig (x - y)).length p7))
      clear hr7 hres
      go_wp2_with fail
      refine bodyPost_ret (v := .tuple #[.agg #[.slice a7 (M.dig (x - y)).length p7], .int .i64 0]) (by simp [results, Tryd.results27, go_sem, d2]) rfl ⟨natRes_ok hr200 ⟨a7, p7, rfl, HR7.out⟩, ?_⟩
      exact HB7.out.setCell (p := ⟨w.heap.size + 1 + 1, 0, none⟩) (by simp; omega) _
/-- **ref01.Sub** of the greater one. -/
theorem rsub_num {u v : Value} {x y : Nat} {w : World} (hx : (M.dig x).length ≤ 200) (hy : (M.dig y).length ≤ 200) (hle : y ≤ x) (hu : Num w u x) (hv : Num w v y) :
    Calls Tryd.prog 27 #[u, v] w fun e W' => NatRes (x - y) e W' ∧ Below w.heap.size w W' := by
  obtain ⟨a, ca, rfl, ha⟩ := hu
  obtain ⟨b, cb, rfl, hb⟩ := hv
  exact rsub_ge a b ca cb x y w hx hy ha hb hle
end Go.Proofs.YtknjoajeilgieaaDoor
