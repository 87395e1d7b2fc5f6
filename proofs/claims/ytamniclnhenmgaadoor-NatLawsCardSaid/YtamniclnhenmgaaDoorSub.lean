/- nat.Sub. -/
import Derived.Test.YtamniclnhenmgaaDoorAdd
import Derived.Test.YtamniclnhenmgaaDoorCmpAny
namespace Go.Proofs.YtamniclnhenmgaaDoor
open Go Go.RowKit Go.Shelf
attribute [local go_sem] mask24

theorem sub_end {zs : List Int} {x y n : Nat} {c : Int} (hz : M.Lim zs) (hl : zs.length = n) (hle : y ≤ x) (hc : -1 ≤ c) (hc2 : c ≤ 0) (h : M.val zs + 16777216 ^ n * c = x - y) : M.trimL zs = M.dig (x - y) := by
  have h1 : M.val zs < 16777216 ^ n := M.val_le_of_len hz (by omega)
  have h2 := M.val_nonneg hz
  have hv : M.val zs = ((x - y : Nat) : Int) := by
    rcases (by omega : c = 0 ∨ c = -1) with rfl | rfl
    · omega
    · rw [Int.mul_neg, Int.mul_one] at h; omega
  rw [M.trimL_dig hz, hv]; rfl

def SubRel (w w3 : World) (g n x y : Nat) (c i : Value) (W : World) : Prop :=
  ∃ (k : Nat) (zs : List Int) (q : Int), i = .int .i64 (k : Int) ∧ c = .int .i64 q ∧ k ≤ n ∧ zs.length = n ∧ M.Lim zs ∧ -1 ≤ q ∧ q ≤ 0 ∧
    M.val (zs.take k) + 16777216 ^ k * q = M.val ((M.dig x).take k) + -M.val ((M.dig y).take k) ∧ Own W (w.heap.size + 3) (.slice (some ⟨g, 0, none⟩) zs.length n) zs ∧ Below (w.heap.size + 3) w3 W

set_option maxRecDepth 100000 in
set_option maxHeartbeats 1000000 in
theorem sub_ge (a b : Option Addr) (ca cb x y : Nat) (w : World) (hx : (M.dig x).length ≤ 200) (hy : (M.dig y).length ≤ 200) (ha : Row w a (M.dig x) ca) (hb : Row w b (M.dig y) cb) (hle : y ≤ x) :
    Calls Tryd.prog 43 #[.agg #[.slice a (M.dig x).length ca], .agg #[.slice b (M.dig y).length cb]] w fun e W' =>
      NatRes (x - y) e W' ∧ Below w.heap.size w W' := by
  have Hvx := Lib.hid (vld_dig hx)
  have Hvy := Lib.hid (vld_dig hy)
  have hB3 := boxes_below w (.slice a (M.dig x).length ca) (.slice b (M.dig y).length cb)
  have hsz := boxes_size w (.slice a (M.dig x).length ca) (.slice b (M.dig y).length cb)
  have HA := Lib.hid (ha.below hB3)
  have HB := Lib.hid (hb.below hB3)
  have HC := Lib.hid (boxes_cells w (.slice a (M.dig x).length ca) (.slice b (M.dig y).length cb))
  have HB3 := Lib.hid hB3
  have HSZ := Lib.hid hsz
  have hla : (M.dig x).length ≤ ca := ha.room
  have hlb : (M.dig y).length ≤ cb := hb.room
  have hma := ha.most
  have hmb := hb.most
  clear ha hb hB3 hsz
  go_enter Tryd.func43, Tryd.ntmps43
  go_wp2_with fail
  generalize hw3 : (((w.alloc (.cells #[.slice a (M.dig x).length ca] 24)).alloc (.cells #[.slice b (M.dig y).length cb] 24)).alloc (.cells #[.slice none 0 0] 24)) = w3
  obtain rfl : boxes w (.slice a (M.dig x).length ca) (.slice b (M.dig y).length cb) = w3 := hw3
  generalize boxes w (.slice a (M.dig x).length ca) (.slice b (M.dig y).length cb) = w3 at *
  refine (valid_yes a _ ca _ HA.out Hvx.out).mono ?_
  rintro e w4 ⟨rfl, hb4⟩
  have hsz4 := hb4.size
  have c1 := (hb4.cell (p := ⟨w.heap.size + 1, 0, none⟩) (by rw [HSZ.out]; simp)).trans HC.out.2.1
  go_wp2_with fail
  refine (valid_yes b _ cb _ (HB.out.below hb4) Hvy.out).mono ?_
  rintro e w5 ⟨rfl, hb5⟩
  have hsz5 := hb5.size
  have c0 := (hb5.cell (p := ⟨w.heap.size, 0, none⟩) (by have := HSZ.out; simp; omega)).trans ((hb4.cell (p := ⟨w.heap.size, 0, none⟩) (by rw [HSZ.out]; simp)).trans HC.out.1)
  replace c1 := (hb5.cell (p := ⟨w.heap.size + 1, 0, none⟩) (by have := HSZ.out; simp; omega)).trans c1
  have HD : Hid (w.heap.size + 3 ≤ w5.heap.size ∧ Below w3.heap.size w3 w5) := ⟨by have := HSZ.out; omega, hb4.trans (hb5.mono hb4.size)⟩
  clear hb4 hb5 hsz4 hsz5
  go_wp2_with fail
  refine (cmp_any a b ca cb x y w5 (HA.out.below HD.out.2) (HB.out.below HD.out.2)).mono ?_
  rintro e w5' ⟨rfl, hb5⟩
  have c0' := (hb5.cell (p := ⟨w.heap.size, 0, none⟩) (by have := HD.out.1; simp; omega)).trans c0
  have c1' := (hb5.cell (p := ⟨w.heap.size + 1, 0, none⟩) (by have := HD.out.1; simp; omega)).trans c1
  have HD' : Hid (w.heap.size + 3 ≤ w5'.heap.size ∧ Below w3.heap.size w3 w5') := ⟨Nat.le_trans HD.out.1 hb5.size, HD.out.2.trans (hb5.mono HD.out.2.size)⟩
  clear c0 c1 hb5 HD
  obtain ⟨s, hs, hs0⟩ : ∃ s, Lib.compareInt (x : Int) (y : Int) = s ∧ 0 ≤ s := by
    rcases Nat.lt_or_eq_of_le hle with h | h
    · exact ⟨1, compare_gt (by omega), by decide⟩
    · exact ⟨0, compare_eq (by omega), by decide⟩
  rw [hs]
  go_wp2_with (at_make; refine wpList_make1 rfl _ _ rfl ((M.dig x).length) rfl rfl (by omega) (by omega) HD'.out.1 ?_; intro w6 hown6 hb6; have c0 := (hb6.cell (p := ⟨w.heap.size, 0, none⟩) (by have := HD'.out.1; simp)).trans c0')
  generalize w5'.heap.size = g at *
  have HD : Hid (Below (w.heap.size + 3) w3 w6) := (HD'.out.2.mono (by rw [HSZ.out]; exact Nat.le_refl _)).trans hb6
  clear c0' c1' c0 hb6 HD' hs hs0
  go_loopw [7, 31] (fun c i wr => SubRel w w3 g (M.dig x).length x y c i wr) (fun _ i _ => (M.dig x).length - (intOf i).toNat)
  case atStart => exact ⟨0, _, 0, rfl, rfl, Nat.zero_le _, List.length_replicate, M.Lim.replicate _, by omega, by omega, by simp [M.val], by simpa using hown6, HD.out⟩
  case round =>
    obtain ⟨k, zs, q, hi, hc, hk, hlen, hlim, hq0, hq1, hval, hown, hbW⟩ := hrel
    subst hi hc
    clear hown6 HD
    have hsW := hbW.size
    have c0 := (hbW.cell (p := ⟨w.heap.size, 0, none⟩) (by simp)).trans HC.out.1
    have c1 := (hbW.cell (p := ⟨w.heap.size + 1, 0, none⟩) (by simp)).trans HC.out.2.1
    have c2 := (hbW.cell (p := ⟨w.heap.size + 1 + 1, 0, none⟩) (by simp)).trans HC.out.2.2.1
    have f2 := (hbW.frozen (p := ⟨w.heap.size + 1 + 1, 0, none⟩) (by simp)).trans HC.out.2.2.2
    have HBW := Lib.hid hbW
    clear hbW
    have HVAL := Lib.hid hval
    have HLN := Lib.hid hlen
    have HLIM := Lib.hid hlim
    have HOWN := Lib.hid hown
    clear hval hlen hlim hown
    have hRA : Row wr a (M.dig x) ca := HA.out.below (HBW.out.mono (by rw [HSZ.out]; exact Nat.le_refl _))
    have hRB : Row wr b (M.dig y) cb := HB.out.below (HBW.out.mono (by rw [HSZ.out]; exact Nat.le_refl _))
    by_cases hlt : k < (M.dig x).length
    · have h1 := (M.lim_dig x).get k
      have h2 := (M.lim_dig y).get k
      have HRA := Lib.hid hRA
      have HRB := Lib.hid hRB
      clear hRA hRB
      obtain ⟨hgB, hcz, hfz⟩ := HOWN.out.at k (by rw [HLN.out]; exact hlt)
      obtain ⟨ba, oa, rfl, hcx⟩ := HRA.out.el k hlt
      go_wp2_with fail
      refine (limbAt_any _ _ _ _ _ HRB.out).mono ?_
      rintro e w' ⟨rfl, hw⟩
      obtain rfl : wr = w' := hw.symm
      go_wp2
      go_roundw
      case rel =>
        refine ⟨k + 1, zs.set k ((q + (M.el (M.dig x) k - M.el (M.dig y) k)) % 16777216), _, by go_num, rfl, by omega, by rw [List.length_set]; exact HLN.out, HLIM.out.set k (by omega) (by omega), by omega, by omega, ?_, ?_, HBW.out.setCell (p := ⟨g, k, none⟩) hgB _⟩
        · rw [M.val_set_succ _ _ _ (by rw [HLN.out]; exact hlt), M.val_take_succ', M.val_take_succ', Int.pow_succ]
          have := M.add_step (s := M.el (M.dig x) k) (t := - M.el (M.dig y) k) HVAL.out
          rw [Int.mul_neg] at this
          rw [Int.neg_add, show M.el (M.dig x) k - M.el (M.dig y) k = M.el (M.dig x) k + -M.el (M.dig y) k by omega]
          exact this
        · rw [List.length_set]
          exact HOWN.out.set k _
      case measure => simp [intOf]; omega
    · have hk' : k = (M.dig x).length := by omega
      have hend : M.trimL zs = M.dig (x - y) := by
        refine sub_end HLIM.out HLN.out hle hq0 hq1 ?_
        have hyl : (M.dig y).length ≤ (M.dig x).length := by
          refine M.dig_len_le.2 (Nat.lt_of_le_of_lt hle (M.dig_len_le.1 (Nat.le_refl _)))
        have hv := HVAL.out
        rw [List.take_of_length_le (by rw [HLN.out]; omega), List.take_of_length_le (by omega), List.take_of_length_le (by omega), M.val_dig, M.val_dig, hk'] at hv
        rw [hv]; omega
      have hw := within_any _ zs _ wr HOWN.out.rowAt
      have ho := HOWN.out.trimmed
      rw [HLN.out] at hw
      rw [hend] at hw ho
      obtain ⟨a', c', hcut⟩ := cut_slice (some ⟨g, 0, none⟩) (M.dig x).length (M.dig (x - y))
      rw [hcut] at hw ho
      have h200 : (M.dig (x - y)).length ≤ 200 := Nat.le_trans (M.dig_len_le.2 (Nat.lt_of_le_of_lt (Nat.sub_le x y) (M.dig_len_le.1 (Nat.le_refl _)))) hx
      rw [if_pos h200] at hw
      clear hRA hRB hend hcut
      have HO := Lib.hid ho
      have HK := Lib.hid hk'
      have HW := Lib.hid hw
      clear ho hk' hw
      have hs2 : w.heap.size + 1 + 1 < wr.heap.size := by have := HSZ.out; omega
      go_wp2_with (go_at_call 71; refine HW.out.mono ?_; rintro e w7 ⟨rfl, hb7⟩; have d2 := (hb7.cell (p := ⟨w.heap.size + 1 + 1, 0, none⟩) hs2).trans c2; have g2 := (hb7.frozen (p := ⟨w.heap.size + 1 + 1, 0, none⟩) hs2).trans f2)
      refine bodyPost_ret (v := .tuple #[.agg #[.slice a' (M.dig (x - y)).length c'], .int .i64 0]) (by simp [results, Tryd.results43, go_sem, d2]) rfl ⟨natRes_ok h200 ?_, ?_⟩
      · exact ((HO.out.below hb7).setBelow (p := ⟨w.heap.size + 1 + 1, 0, none⟩) (by simp) _).num
      · exact ((HB3.out.trans (HBW.out.mono (by omega))).trans (hb7.mono (by have := HSZ.out; omega))).setCell (p := ⟨w.heap.size + 1 + 1, 0, none⟩) (by simp; omega) _

set_option maxRecDepth 100000 in
set_option maxHeartbeats 1000000 in
theorem sub_lt (a b : Option Addr) (ca cb x y : Nat) (w : World) (hx : (M.dig x).length ≤ 200) (hy : (M.dig y).length ≤ 200) (ha : Row w a (M.dig x) ca) (hb : Row w b (M.dig y) cb) (hlt : x < y) :
    Calls Tryd.prog 43 #[.agg #[.slice a (M.dig x).length ca], .agg #[.slice b (M.dig y).length cb]] w fun e W' =>
      e = .returned (.tuple #[.agg #[.slice none 0 0], .int .i64 5]) ∧ Below w.heap.size w W' := by
  have Hvx := Lib.hid (vld_dig hx)
  have Hvy := Lib.hid (vld_dig hy)
  have hB3 := boxes_below w (.slice a (M.dig x).length ca) (.slice b (M.dig y).length cb)
  have hsz := boxes_size w (.slice a (M.dig x).length ca) (.slice b (M.dig y).length cb)
  have HA := Lib.hid (ha.below hB3)
  have HB := Lib.hid (hb.below hB3)
  have HC := Lib.hid (boxes_cells w (.slice a (M.dig x).length ca) (.slice b (M.dig y).length cb))
  have HB3 := Lib.hid hB3
  have HSZ := Lib.hid hsz
  clear ha hb hB3 hsz
  go_enter Tryd.func43, Tryd.ntmps43
  go_wp2_with fail
  generalize hw3 : (((w.alloc (.cells #[.slice a (M.dig x).length ca] 24)).alloc (.cells #[.slice b (M.dig y).length cb] 24)).alloc (.cells #[.slice none 0 0] 24)) = w3
  obtain rfl : boxes w (.slice a (M.dig x).length ca) (.slice b (M.dig y).length cb) = w3 := hw3
  generalize boxes w (.slice a (M.dig x).length ca) (.slice b (M.dig y).length cb) = w3 at *
  refine (valid_yes a _ ca _ HA.out Hvx.out).mono ?_
  rintro e w4 ⟨rfl, hb4⟩
  have hsz4 := hb4.size
  have c1 := (hb4.cell (p := ⟨w.heap.size + 1, 0, none⟩) (by rw [HSZ.out]; simp)).trans HC.out.2.1
  go_wp2_with fail
  refine (valid_yes b _ cb _ (HB.out.below hb4) Hvy.out).mono ?_
  rintro e w5 ⟨rfl, hb5⟩
  have hsz5 := hb5.size
  have c0 := (hb5.cell (p := ⟨w.heap.size, 0, none⟩) (by have := HSZ.out; simp; omega)).trans ((hb4.cell (p := ⟨w.heap.size, 0, none⟩) (by rw [HSZ.out]; simp)).trans HC.out.1)
  replace c1 := (hb5.cell (p := ⟨w.heap.size + 1, 0, none⟩) (by have := HSZ.out; simp; omega)).trans c1
  have HD : Hid (w.heap.size + 3 ≤ w5.heap.size ∧ Below w3.heap.size w3 w5) := ⟨by have := HSZ.out; omega, hb4.trans (hb5.mono hb4.size)⟩
  clear hb4 hb5 hsz4 hsz5
  go_wp2_with fail
  refine (cmp_any a b ca cb x y w5 (HA.out.below HD.out.2) (HB.out.below HD.out.2)).mono ?_
  rintro e w5' ⟨rfl, hb5⟩
  have d2 := (hb5.cell (p := ⟨w.heap.size + 1 + 1, 0, none⟩) (by have := HD.out.1; simp; omega)).trans ((HD.out.2.cell (p := ⟨w.heap.size + 1 + 1, 0, none⟩) (by rw [HSZ.out]; simp)).trans HC.out.2.2.1)
  have g2 := (hb5.frozen (p := ⟨w.heap.size + 1 + 1, 0, none⟩) (by have := HD.out.1; simp; omega)).trans ((HD.out.2.frozen (p := ⟨w.heap.size + 1 + 1, 0, none⟩) (by rw [HSZ.out]; simp)).trans HC.out.2.2.2)
  have HB5 := Lib.hid ((HB3.out.trans (HD.out.2.mono (by have := HSZ.out; omega))).trans (hb5.mono (by have := HD.out.1; omega)))
  clear c0 c1 hb5 HD
  rw [compare_lt (by omega : (x : Int) < (y : Int))]
  go_wp2_with fail
  refine bodyPost_ret (v := .tuple #[.agg #[.slice none 0 0], .int .i64 5]) (by simp [results, Tryd.results43, go_sem, d2]) rfl ⟨rfl, ?_⟩
  exact HB5.out.setCell (p := ⟨w.heap.size + 1 + 1, 0, none⟩) (by simp; omega) _

/-- **nat.Sub** of any two numbers: whether it is an error. -/
theorem sub_both (a b : Option Addr) (ca cb x y : Nat) (w : World) (hx : (M.dig x).length ≤ 200) (hy : (M.dig y).length ≤ 200) (ha : Row w a (M.dig x) ca) (hb : Row w b (M.dig y) cb) :
    Calls Tryd.prog 43 #[.agg #[.slice a (M.dig x).length ca], .agg #[.slice b (M.dig y).length cb]] w fun e W' =>
      ∃ (d : Option Addr) (n cd : Nat), e = .returned (.tuple #[.agg #[.slice d n cd], .int .i64 (if y ≤ x then 0 else 5)]) ∧ Below w.heap.size w W' := by
  by_cases h : y ≤ x
  · refine (sub_ge a b ca cb x y w hx hy ha hb h).mono ?_
    rintro e W' ⟨hres, hb'⟩
    obtain ⟨v, rfl, d, cd, rfl, _⟩ := hres.ok (Nat.le_trans (M.dig_len_le.2 (Nat.lt_of_le_of_lt (Nat.sub_le x y) (M.dig_len_le.1 (Nat.le_refl _)))) hx)
    exact ⟨d, _, cd, by rw [if_pos h], hb'⟩
  · refine (sub_lt a b ca cb x y w hx hy ha hb (by omega)).mono ?_
    rintro e W' ⟨rfl, hb'⟩
    exact ⟨none, 0, 0, by rw [if_neg h], hb'⟩
end Go.Proofs.YtamniclnhenmgaaDoor
