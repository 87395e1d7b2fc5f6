/- The reference's Add. -/
import Derived.Test.YtbhfhekjcnnfeaaDoorB12
import Derived.Deep.RegionHeld3
namespace Go.Proofs.YtbhfhekjcnnfeaaDoor
open Go Go.RowKit Go.Shelf

theorem M.radd_step {V P q s t A B : Int} (h : V + P * q = A + B) : (V + P * ((s + t + q) % 16777216)) + P * 16777216 * ((s + t + q) / 16777216) = (A + P * s) + (B + P * t) := by
  have := M.add_step (s := s) (t := t) h
  rw [show q + (s + t) = s + t + q by omega] at this
  exact this

def RAddRel (w w3 : World) (N x y : Nat) (l c i : Value) (W : World) : Prop :=
  ∃ (k : Nat) (zs : List Int) (q : Int) (a : Option Addr) (cap : Nat), l = .slice a zs.length cap ∧ c = .int .i64 q ∧ i = .int .i64 (k : Int) ∧ k ≤ N + 1 ∧ zs.length = k ∧ M.Lim zs ∧ 0 ≤ q ∧ q ≤ 1 ∧
    M.val zs + 16777216 ^ k * q = M.val ((M.dig x).take k) + M.val ((M.dig y).take k) ∧ Own W (w.heap.size + 3) (.slice a zs.length cap) zs ∧ Below w3.heap.size w3 W

set_option maxRecDepth 100000 in
set_option maxHeartbeats 2000000 in
theorem radd_lt (a b : Option Addr) (ca cb x y : Nat) (w : World) (hx200 : (M.dig x).length ≤ 200) (hy200 : (M.dig y).length ≤ 200) (hA : Row w a (M.dig x) ca) (hB : Row w b (M.dig y) cb) (hle : (M.dig x).length < (M.dig y).length) :
    Calls Tryd.prog 13 #[.agg #[.slice a (M.dig x).length ca], .agg #[.slice b (M.dig y).length cb]] w fun e W' => NatRes (x + y) e W' ∧ Below w.heap.size w W' := by
  have Hvx := Lib.hid (vld_dig hx200)
  have Hvy := Lib.hid (vld_dig hy200)
  have hb3 := boxes_below w (.slice a (M.dig x).length ca) (.slice b (M.dig y).length cb)
  have hs3 := boxes_size w (.slice a (M.dig x).length ca) (.slice b (M.dig y).length cb)
  obtain ⟨c0, c1, c2, f2⟩ := boxes_cells w (.slice a (M.dig x).length ca) (.slice b (M.dig y).length cb)
  have HA := Lib.hid (hA.below hb3)
  have HB := Lib.hid (hB.below hb3)
  have HB3 := Lib.hid hb3
  have hd : decide ((M.dig x).length < (M.dig y).length) = true := decide_eq_true hle
  clear hA hB hb3
  go_enter Tryd.func13, Tryd.ntmps13
  go_wp2_with fail
  generalize hw3 : (((w.alloc (.cells #[.slice a (M.dig x).length ca] 31)).alloc (.cells #[.slice b (M.dig y).length cb] 31)).alloc (.cells #[.slice none 0 0] 31)) = w3
  obtain rfl : boxes w (.slice a (M.dig x).length ca) (.slice b (M.dig y).length cb) = w3 := hw3
  generalize boxes w (.slice a (M.dig x).length ca) (.slice b (M.dig y).length cb) = w3 at *
  refine (rvalid_yes a _ ca _ HA.out Hvx.out).mono ?_
  rintro e w5 ⟨rfl, hb5⟩
  have HC := Lib.hid (And.intro c0 (And.intro c1 (And.intro c2 f2)))
  have d1 := cell_below hb5 c1
  have HB5 := Lib.hid hb5
  have hs5 := hb5.size
  clear c0 c1 c2 f2 hb5
  go_wp2_with fail
  refine (rvalid_yes b _ cb _ (HB.out.below HB5.out) Hvy.out).mono ?_
  rintro e w6 ⟨rfl, hb6⟩
  have hb36 := HB5.out.trans (hb6.mono HB5.out.size)
  have c0 := cell_below hb36 HC.out.1
  have c1 := cell_below hb36 HC.out.2.1
  have HB6 := Lib.hid hb36
  clear d1 hb6 hb36 HB5 hs5
  go_wp2_with fail
  clear c0 c1 hd
  go_loopw [7, 8, 9] (fun l c i wr => RAddRel w w3 (M.dig y).length x y l c i wr) (fun _ _ i _ => (M.dig y).length + 1 - (intOf i).toNat)
  case atStart => exact ⟨0, [], 0, none, 0, rfl, rfl, rfl, by omega, rfl, M.Lim.nil, by omega, by omega, by simp [M.val], Own.nil _ _, HB6.out⟩
  case round =>
    clear HB6
    obtain ⟨k, zs, q, al, cl, rfl, rfl, rfl, hk, hlen, hlim, hq0, hq1, hval, hown, hbW⟩ := hrel
    have c0 := cell_below hbW HC.out.1
    have c1 := cell_below hbW HC.out.2.1
    have c2 := cell_below hbW HC.out.2.2.1
    have f2 := frozen_below hbW HC.out.2.2.1 HC.out.2.2.2
    have HRA := Lib.hid (HA.out.below hbW)
    have HRB := Lib.hid (HB.out.below hbW)
    have HBW := Lib.hid hbW
    have HVAL := Lib.hid hval
    have HLN := Lib.hid hlen
    have HLIM := Lib.hid hlim
    have HOWN := Lib.hid hown
    have hsW := hbW.size
    clear hval hlen hlim hown hbW
    by_cases hlt : k < (M.dig y).length + 1
    · have h1 := (M.lim_dig x).get k
      have h2 := (M.lim_dig y).get k
      have HLA := Lib.hid (fun (W : World) (hb : Below wr.heap.size wr W) => rlimb_any a (M.dig x) ca k W (HRA.out.below hb))
      have HLB := Lib.hid (fun (W : World) (hb : Below wr.heap.size wr W) => rlimb_any b (M.dig y) cb k W (HRB.out.below hb))
      obtain ⟨sx, hsx⟩ : ∃ sx, M.el (M.dig x) k = sx := ⟨_, rfl⟩
      obtain ⟨sy, hsy⟩ : ∃ sy, M.el (M.dig y) k = sy := ⟨_, rfl⟩
      rw [hsx] at h1 HLA
      rw [hsy] at h2 HLB
      obtain ⟨t, ht⟩ : ∃ t, t = sx + sy := ⟨_, rfl⟩
      obtain ⟨v, hv⟩ : ∃ v, v = t + q := ⟨_, rfl⟩
      have hw1 : IntKind.i64.wrap (sx + sy) = t := by rw [IntKind.wrap_i64]; omega
      have hw2 : IntKind.i64.wrap (t + q) = v := by rw [IntKind.wrap_i64]; omega
      have hv0 : 0 ≤ v := by omega
      have hv1 : v ≤ 33554431 := by omega
      have hvv : v = sx + sy + q := by omega
      have HSX := Lib.hid hsx
      have HSY := Lib.hid hsy
      have HVV := Lib.hid hvv
      have hbd : Below wr.heap.size wr wr.drew := belowN (Below.refl _ _) 1
      clear hsx hsy ht hv hvv h1 h2
      go_wp2_with fail
      go_region_held3 (fun w' => w'.cell? ⟨w.heap.size, 0, none⟩ = some (.slice a (M.dig x).length ca) ∧ w'.cell? ⟨w.heap.size + 1, 0, none⟩ = some (.slice b (M.dig y).length cb))
        (first | exact ⟨c0, c1⟩ | exact ⟨cell_below hb1 c0, cell_below hb1 c1⟩ | exact ⟨cell_below (hb1.trans (hb2.mono hb1.size)) c0, cell_below (hb1.trans (hb2.mono hb1.size)) c1⟩)
        (first
          | (go_at_call 33; (with_reducible refine (HLA.out _ hbd).mono ?_); rintro e wa ⟨rfl, hb1⟩)
          | (go_at_call 33; (with_reducible refine (HLB.out _ (hbd.trans (hb1.mono (Nat.le_refl _)))).mono ?_); rintro e wb ⟨rfl, hb2⟩))
      have hb12 := (hbd.trans (hb1.mono (Nat.le_refl _))).trans (hb2.mono hb1.size)
      have HO2 := Lib.hid (HOWN.out.below hb12)
      have HB2 := Lib.hid (HBW.out.trans (hb12.mono hsW))
      have hwb : w.heap.size + 3 ≤ wb.heap.size := by have := hb12.size; omega
      have hln : zs.length < 1000 := by rw [HLN.out]; omega
      clear hw1 hw2 hb1 hb2 hb12 hbd HLA HLB HRA HRB c0 c1 c2 f2
      try clear hHeld
      go_wp2_with (at_builtin; refine wpList_app1 rfl _ _ rfl rfl (HO2.out.alloc _) rfl (cell_new _ _ _) (by omega) (by simp; omega) ?_; intro a' cap' W' hown' hb')
      go_roundw
      case rel =>
        refine ⟨k + 1, zs ++ [v % 16777216], v / 16777216, a', cap', by rw [List.length_append]; rfl, rfl, by go_num, by omega, by rw [List.length_append, HLN.out]; rfl, HLIM.out.append (M.Lim.cons (by omega) (by omega) M.Lim.nil), by omega, by omega, ?_, hown', ?_⟩
        · rw [M.val_append, HLN.out, M.val_take_succ', M.val_take_succ', Int.pow_succ, HSX.out, HSY.out, HVV.out]
          simp only [M.val, Int.mul_zero, Int.add_zero]
          exact M.radd_step HVAL.out
        · have := HB2.out.alloc HB2.out.size (.cells #[.int .i64 (v % 16777216)] 3)
          exact this.trans (hb'.mono (by omega))
      case measure => simp [intOf]; omega
    · have hk' : k = (M.dig y).length + 1 := by omega
      have hv0 := HVAL.out
      rw [List.take_of_length_le (by omega), List.take_of_length_le (by omega), M.val_dig, M.val_dig, hk'] at hv0
      have hend : M.trimL zs = M.dig (x + y) := M.add_end (n := (M.dig y).length) HLIM.out (by omega) (by omega) hq0 hv0
      have hlz : zs.length = (M.dig y).length + 1 := by rw [HLN.out]; exact hk'
      obtain ⟨g, rfl, hgB, hgW, _, _, _, _⟩ := HOWN.out.at2 0 (by omega)
      have hfit := rfit_trim g 0 zs cl (x + y) wr HOWN.out.rowAt hend
      have HF := Lib.hid hfit
      have hlt2 : w.heap.size + 1 + 1 < wr.heap.size := by omega
      clear hfit hv0 hend hk' hlz HRA HRB c0 c1
      go_wp2_with fail
      (with_reducible refine HF.out.mono ?_)
      rintro e w7 ⟨hres, hb7⟩
      have d2 := cell_below hb7 c2
      have g2 := frozen_below hb7 c2 f2
      have hB7 := (HB3.out.trans (HBW.out.mono (by omega))).trans (hb7.mono (by omega))
      have HB7 := Lib.hid hB7
      clear hB7 hb7 c2 f2
      by_cases h200 : (M.dig (x + y)).length ≤ 200
      · obtain ⟨v, rfl, a7, p7, rfl, hr7, hf7⟩ := hres.ok h200
        have HR7 := Lib.hid hr7
        have HF7 := Lib.hid hf7
        clear hr7 hres hf7
        go_wp2_with fail
        refine bodyPost_ret (v := .tuple #[.agg #[.slice a7 (M.dig (x + y)).length p7], .int .i64 0]) (by simp [results, Tryd.results13, go_sem, d2]) rfl ⟨natRes_ok h200 ⟨a7, p7, rfl, ?_⟩, ?_⟩
        · exact HR7.out.setFresh HF7.out (p := ⟨w.heap.size + 1 + 1, 0, none⟩) hlt2 _
        · exact HB7.out.setCell (p := ⟨w.heap.size + 1 + 1, 0, none⟩) (by simp; omega) _
      · obtain rfl := hres.limit h200
        clear hres
        go_wp2_with fail
        refine bodyPost_ret (v := .tuple #[.agg #[.slice none 0 0], .int .i64 3]) (by simp [results, Tryd.results13, go_sem, d2]) rfl ⟨natRes_limit h200, ?_⟩
        exact HB7.out.setCell (p := ⟨w.heap.size + 1 + 1, 0, none⟩) (by simp; omega) _

set_option maxRecDepth 100000 in
set_option maxHeartbeats 2000000 in
theorem radd_ge (a b : Option Addr) (ca cb x y : Nat) (w : World) (hx200 : (M.dig x).length ≤ 200) (hy200 : (M.dig y).length ≤ 200) (hA : Row w a (M.dig x) ca) (hB : Row w b (M.dig y) cb) (hle : (M.dig y).length ≤ (M.dig x).length) :
    Calls Tryd.prog 13 #[.agg #[.slice a (M.dig x).length ca], .agg #[.slice b (M.dig y).length cb]] w fun e W' => NatRes (x + y) e W' ∧ Below w.heap.size w W' := by
  have Hvx := Lib.hid (vld_dig hx200)
  have Hvy := Lib.hid (vld_dig hy200)
  have hb3 := boxes_below w (.slice a (M.dig x).length ca) (.slice b (M.dig y).length cb)
  have hs3 := boxes_size w (.slice a (M.dig x).length ca) (.slice b (M.dig y).length cb)
  obtain ⟨c0, c1, c2, f2⟩ := boxes_cells w (.slice a (M.dig x).length ca) (.slice b (M.dig y).length cb)
  have HA := Lib.hid (hA.below hb3)
  have HB := Lib.hid (hB.below hb3)
  have HB3 := Lib.hid hb3
  have hd : decide ((M.dig x).length < (M.dig y).length) = false := decide_eq_false (by omega)
  clear hA hB hb3
  go_enter Tryd.func13, Tryd.ntmps13
  go_wp2_with fail
  generalize hw3 : (((w.alloc (.cells #[.slice a (M.dig x).length ca] 31)).alloc (.cells #[.slice b (M.dig y).length cb] 31)).alloc (.cells #[.slice none 0 0] 31)) = w3
  obtain rfl : boxes w (.slice a (M.dig x).length ca) (.slice b (M.dig y).length cb) = w3 := hw3
  generalize boxes w (.slice a (M.dig x).length ca) (.slice b (M.dig y).length cb) = w3 at *
  refine (rvalid_yes a _ ca _ HA.out Hvx.out).mono ?_
  rintro e w5 ⟨rfl, hb5⟩
  have HC := Lib.hid (And.intro c0 (And.intro c1 (And.intro c2 f2)))
  have d1 := cell_below hb5 c1
  have HB5 := Lib.hid hb5
  have hs5 := hb5.size
  clear c0 c1 c2 f2 hb5
  go_wp2_with fail
  refine (rvalid_yes b _ cb _ (HB.out.below HB5.out) Hvy.out).mono ?_
  rintro e w6 ⟨rfl, hb6⟩
  have hb36 := HB5.out.trans (hb6.mono HB5.out.size)
  have c0 := cell_below hb36 HC.out.1
  have c1 := cell_below hb36 HC.out.2.1
  have HB6 := Lib.hid hb36
  clear d1 hb6 hb36 HB5 hs5
  go_wp2_with fail
  clear c0 c1 hd
  go_loopw [7, 8, 9] (fun l c i wr => RAddRel w w3 (M.dig x).length x y l c i wr) (fun _ _ i _ => (M.dig x).length + 1 - (intOf i).toNat)
  case atStart => exact ⟨0, [], 0, none, 0, rfl, rfl, rfl, by omega, rfl, M.Lim.nil, by omega, by omega, by simp [M.val], Own.nil _ _, HB6.out⟩
  case round =>
    clear HB6
    obtain ⟨k, zs, q, al, cl, rfl, rfl, rfl, hk, hlen, hlim, hq0, hq1, hval, hown, hbW⟩ := hrel
    have c0 := cell_below hbW HC.out.1
    have c1 := cell_below hbW HC.out.2.1
    have c2 := cell_below hbW HC.out.2.2.1
    have f2 := frozen_below hbW HC.out.2.2.1 HC.out.2.2.2
    have HRA := Lib.hid (HA.out.below hbW)
    have HRB := Lib.hid (HB.out.below hbW)
    have HBW := Lib.hid hbW
    have HVAL := Lib.hid hval
    have HLN := Lib.hid hlen
    have HLIM := Lib.hid hlim
    have HOWN := Lib.hid hown
    have hsW := hbW.size
    clear hval hlen hlim hown hbW
    by_cases hlt : k < (M.dig x).length + 1
    · have h1 := (M.lim_dig x).get k
      have h2 := (M.lim_dig y).get k
      have HLA := Lib.hid (fun (W : World) (hb : Below wr.heap.size wr W) => rlimb_any a (M.dig x) ca k W (HRA.out.below hb))
      have HLB := Lib.hid (fun (W : World) (hb : Below wr.heap.size wr W) => rlimb_any b (M.dig y) cb k W (HRB.out.below hb))
      obtain ⟨sx, hsx⟩ : ∃ sx, M.el (M.dig x) k = sx := ⟨_, rfl⟩
      obtain ⟨sy, hsy⟩ : ∃ sy, M.el (M.dig y) k = sy := ⟨_, rfl⟩
      rw [hsx] at h1 HLA
      rw [hsy] at h2 HLB
      obtain ⟨t, ht⟩ : ∃ t, t = sx + sy := ⟨_, rfl⟩
      obtain ⟨v, hv⟩ : ∃ v, v = t + q := ⟨_, rfl⟩
      have hw1 : IntKind.i64.wrap (sx + sy) = t := by rw [IntKind.wrap_i64]; omega
      have hw2 : IntKind.i64.wrap (t + q) = v := by rw [IntKind.wrap_i64]; omega
      have hv0 : 0 ≤ v := by omega
      have hv1 : v ≤ 33554431 := by omega
      have hvv : v = sx + sy + q := by omega
      have HSX := Lib.hid hsx
      have HSY := Lib.hid hsy
      have HVV := Lib.hid hvv
      have hbd : Below wr.heap.size wr wr.drew := belowN (Below.refl _ _) 1
      clear hsx hsy ht hv hvv h1 h2
      go_wp2_with fail
      go_region_held3 (fun w' => w'.cell? ⟨w.heap.size, 0, none⟩ = some (.slice a (M.dig x).length ca) ∧ w'.cell? ⟨w.heap.size + 1, 0, none⟩ = some (.slice b (M.dig y).length cb))
        (first | exact ⟨c0, c1⟩ | exact ⟨cell_below hb1 c0, cell_below hb1 c1⟩ | exact ⟨cell_below (hb1.trans (hb2.mono hb1.size)) c0, cell_below (hb1.trans (hb2.mono hb1.size)) c1⟩)
        (first
          | (go_at_call 33; (with_reducible refine (HLA.out _ hbd).mono ?_); rintro e wa ⟨rfl, hb1⟩)
          | (go_at_call 33; (with_reducible refine (HLB.out _ (hbd.trans (hb1.mono (Nat.le_refl _)))).mono ?_); rintro e wb ⟨rfl, hb2⟩))
      have hb12 := (hbd.trans (hb1.mono (Nat.le_refl _))).trans (hb2.mono hb1.size)
      have HO2 := Lib.hid (HOWN.out.below hb12)
      have HB2 := Lib.hid (HBW.out.trans (hb12.mono hsW))
      have hwb : w.heap.size + 3 ≤ wb.heap.size := by have := hb12.size; omega
      have hln : zs.length < 1000 := by rw [HLN.out]; omega
      clear hw1 hw2 hb1 hb2 hb12 hbd HLA HLB HRA HRB c0 c1 c2 f2
      try clear hHeld
      go_wp2_with (at_builtin; refine wpList_app1 rfl _ _ rfl rfl (HO2.out.alloc _) rfl (cell_new _ _ _) (by omega) (by simp; omega) ?_; intro a' cap' W' hown' hb')
      go_roundw
      case rel =>
        refine ⟨k + 1, zs ++ [v % 16777216], v / 16777216, a', cap', by rw [List.length_append]; rfl, rfl, by go_num, by omega, by rw [List.length_append, HLN.out]; rfl, HLIM.out.append (M.Lim.cons (by omega) (by omega) M.Lim.nil), by omega, by omega, ?_, hown', ?_⟩
        · rw [M.val_append, HLN.out, M.val_take_succ', M.val_take_succ', Int.pow_succ, HSX.out, HSY.out, HVV.out]
          simp only [M.val, Int.mul_zero, Int.add_zero]
          exact M.radd_step HVAL.out
        · have := HB2.out.alloc HB2.out.size (.cells #[.int .i64 (v % 16777216)] 3)
          exact this.trans (hb'.mono (by omega))
      case measure => simp [intOf]; omega
    · have hk' : k = (M.dig x).length + 1 := by omega
      have hv0 := HVAL.out
      rw [List.take_of_length_le (by omega), List.take_of_length_le (by omega), M.val_dig, M.val_dig, hk'] at hv0
      have hend : M.trimL zs = M.dig (x + y) := M.add_end (n := (M.dig x).length) HLIM.out (by omega) (by omega) hq0 hv0
      have hlz : zs.length = (M.dig x).length + 1 := by rw [HLN.out]; exact hk'
      obtain ⟨g, rfl, hgB, hgW, _, _, _, _⟩ := HOWN.out.at2 0 (by omega)
      have hfit := rfit_trim g 0 zs cl (x + y) wr HOWN.out.rowAt hend
      have HF := Lib.hid hfit
      have hlt2 : w.heap.size + 1 + 1 < wr.heap.size := by omega
      clear hfit hv0 hend hk' hlz HRA HRB c0 c1
      go_wp2_with fail
      (with_reducible refine HF.out.mono ?_)
      rintro e w7 ⟨hres, hb7⟩
      have d2 := cell_below hb7 c2
      have g2 := frozen_below hb7 c2 f2
      have hB7 := (HB3.out.trans (HBW.out.mono (by omega))).trans (hb7.mono (by omega))
      have HB7 := Lib.hid hB7
      clear hB7 hb7 c2 f2
      by_cases h200 : (M.dig (x + y)).length ≤ 200
      · obtain ⟨v, rfl, a7, p7, rfl, hr7, hf7⟩ := hres.ok h200
        have HR7 := Lib.hid hr7
        have HF7 := Lib.hid hf7
        clear hr7 hres hf7
        go_wp2_with fail
        refine bodyPost_ret (v := .tuple #[.agg #[.slice a7 (M.dig (x + y)).length p7], .int .i64 0]) (by simp [results, Tryd.results13, go_sem, d2]) rfl ⟨natRes_ok h200 ⟨a7, p7, rfl, ?_⟩, ?_⟩
        · exact HR7.out.setFresh HF7.out (p := ⟨w.heap.size + 1 + 1, 0, none⟩) hlt2 _
        · exact HB7.out.setCell (p := ⟨w.heap.size + 1 + 1, 0, none⟩) (by simp; omega) _
      · obtain rfl := hres.limit h200
        clear hres
        go_wp2_with fail
        refine bodyPost_ret (v := .tuple #[.agg #[.slice none 0 0], .int .i64 3]) (by simp [results, Tryd.results13, go_sem, d2]) rfl ⟨natRes_limit h200, ?_⟩
        exact HB7.out.setCell (p := ⟨w.heap.size + 1 + 1, 0, none⟩) (by simp; omega) _

/-- **ref01.Add** of two numbers. -/
theorem radd_num {u v : Value} {x y : Nat} {w : World} (hx : (M.dig x).length ≤ 200) (hy : (M.dig y).length ≤ 200) (hu : Num w u x) (hv : Num w v y) :
    Calls Tryd.prog 13 #[u, v] w fun e W' => NatRes (x + y) e W' ∧ Below w.heap.size w W' := by
  obtain ⟨a, ca, rfl, ha⟩ := hu
  obtain ⟨b, cb, rfl, hb⟩ := hv
  rcases Nat.lt_or_ge (M.dig x).length (M.dig y).length with h | h
  · exact radd_lt a b ca cb x y w hx hy ha hb h
  · exact radd_ge a b ca cb x y w hx hy ha hb h
end Go.Proofs.YtbhfhekjcnnfeaaDoor
