/- nat.Add. -/
import Derived.Test.YtamniclnhenmgaaDoorValid
import Derived.Test.YtamniclnhenmgaaDoorOwn
import Derived.Test.YtamniclnhenmgaaDoorBits
namespace Go.Proofs.YtamniclnhenmgaaDoor
open Go Go.RowKit Go.Shelf
attribute [local go_sem] mask24

theorem vld_dig {n : Nat} (h : (M.dig n).length ≤ 200) : Vld (M.dig n) := by
  refine ⟨h, fun h0 => ?_, M.lim_dig n⟩
  have hn : n ≠ 0 := by intro e; rw [e, M.dig_zero] at h0; simp at h0
  have := M.dig_last hn
  rw [M.el_lt (by omega)]
  intro e
  apply this
  rw [List.getLast?_eq_getElem?, List.getElem?_eq_getElem (by omega), e]

/-- The world behind the three boxes with which Add and its kin begin. -/
def boxes (w : World) (u v : Value) : World := ((w.alloc (.cells #[u] 24)).alloc (.cells #[v] 24)).alloc (.cells #[.slice none 0 0] 24)

theorem boxes_size (w : World) (u v : Value) : (boxes w u v).heap.size = w.heap.size + 3 := by simp [boxes]
theorem boxes_below (w : World) (u v : Value) : Below w.heap.size w (boxes w u v) := (((Below.refl _ w).alloc (Nat.le_refl _) _).alloc (by simp) _).alloc (by simp; omega) _
theorem boxes_cells (w : World) (u v : Value) : (boxes w u v).cell? ⟨w.heap.size, 0, none⟩ = some u ∧ (boxes w u v).cell? ⟨w.heap.size + 1, 0, none⟩ = some v ∧ (boxes w u v).cell? ⟨w.heap.size + 1 + 1, 0, none⟩ = some (.slice none 0 0) ∧ (boxes w u v).frozen? ⟨w.heap.size + 1 + 1, 0, none⟩ = false := by
  have h0 := cell_new w u 24
  have h1 := cell_new (w.alloc (.cells #[u] 24)) v 24
  have h2 := cell_new ((w.alloc (.cells #[u] 24)).alloc (.cells #[v] 24)) (.slice none 0 0) 24
  have h3 := frozen_new ((w.alloc (.cells #[u] 24)).alloc (.cells #[v] 24)) (.slice none 0 0) 24
  simp only [World.size_alloc] at h1 h2 h3
  exact ⟨cell_later _ (cell_later _ h0), cell_later _ h1, h2, h3⟩

def AddRel (w w3 : World) (g n x y : Nat) (c i : Value) (W : World) : Prop :=
  ∃ (k : Nat) (zs : List Int) (q : Int), i = .int .i64 (k : Int) ∧ c = .int .i64 q ∧ k ≤ n + 1 ∧ zs.length = n + 1 ∧ M.Lim zs ∧ 0 ≤ q ∧ q ≤ 1 ∧
    M.val (zs.take k) + 16777216 ^ k * q = M.val ((M.dig x).take k) + M.val ((M.dig y).take k) ∧ Own W (w.heap.size + 3) (.slice (some ⟨g, 0, none⟩) zs.length (n + 1)) zs ∧ Below (w.heap.size + 3) w3 W

set_option maxRecDepth 100000 in
set_option maxHeartbeats 2000000 in
theorem add_lt (a b : Option Addr) (ca cb x y : Nat) (w : World) (hx : (M.dig x).length ≤ 200) (hy : (M.dig y).length ≤ 200) (ha : Row w a (M.dig x) ca) (hb : Row w b (M.dig y) cb) (hle : (M.dig x).length < (M.dig y).length) :
    Calls Tryd.prog 26 #[.agg #[.slice a (M.dig x).length ca], .agg #[.slice b (M.dig y).length cb]] w fun e W' =>
      NatRes (x + y) e W' ∧ Below w.heap.size w W' := by
  have Hvx := Lib.hid (vld_dig hx)
  have Hvy := Lib.hid (vld_dig hy)
  have hB3 := boxes_below w (.slice a (M.dig x).length ca) (.slice b (M.dig y).length cb)
  have hsz := boxes_size w (.slice a (M.dig x).length ca) (.slice b (M.dig y).length cb)
  have HA := Lib.hid (ha.below hB3)
  have HB := Lib.hid (hb.below hB3)
  have HC := Lib.hid (boxes_cells w (.slice a (M.dig x).length ca) (.slice b (M.dig y).length cb))
  have HB3 := Lib.hid hB3
  have HSZ := Lib.hid hsz
  have hla : (M.dig x).length ≤ ca := ha.room
  have hlb : (M.dig y).length ≤ cb := hb.room
  have hma := ha.most
  have hmb := hb.most
  clear ha hb hB3 hsz
  go_enter Tryd.func26, Tryd.ntmps26
  go_wp2_with fail
  generalize hw3 : (((w.alloc (.cells #[.slice a (M.dig x).length ca] 24)).alloc (.cells #[.slice b (M.dig y).length cb] 24)).alloc (.cells #[.slice none 0 0] 24)) = w3
  obtain rfl : boxes w (.slice a (M.dig x).length ca) (.slice b (M.dig y).length cb) = w3 := hw3
  generalize boxes w (.slice a (M.dig x).length ca) (.slice b (M.dig y).length cb) = w3 at *
  refine (valid_yes a _ ca _ HA.out Hvx.out).mono ?_
  rintro e w4 ⟨rfl, hb4⟩
  have hsz4 := hb4.size
  have c1 := (hb4.cell (p := ⟨w.heap.size + 1, 0, none⟩) (by rw [HSZ.out]; simp)).trans HC.out.2.1
  go_wp2_with fail
  refine (valid_yes b _ cb _ (HB.out.below hb4) Hvy.out).mono ?_
  rintro e w5 ⟨rfl, hb5⟩
  have hsz5 := hb5.size
  have c0 := (hb5.cell (p := ⟨w.heap.size, 0, none⟩) (by have := HSZ.out; simp; omega)).trans ((hb4.cell (p := ⟨w.heap.size, 0, none⟩) (by rw [HSZ.out]; simp)).trans HC.out.1)
  replace c1 := (hb5.cell (p := ⟨w.heap.size + 1, 0, none⟩) (by have := HSZ.out; simp; omega)).trans c1
  have HD : Hid (w.heap.size + 3 ≤ w5.heap.size ∧ Below w3.heap.size w3 w5) := ⟨by have := HSZ.out; omega, hb4.trans (hb5.mono hb4.size)⟩
  clear hb4 hb5 hsz4 hsz5
  go_wp2_with (at_make; refine wpList_make1 rfl _ _ rfl ((M.dig y).length + 1) rfl rfl (by omega) (by omega) HD.out.1 ?_; intro w6 hown6 hb6)
  generalize w5.heap.size = g at *
  replace HD : Hid (Below (w.heap.size + 3) w3 w6) := (HD.out.2.mono (by rw [HSZ.out]; exact Nat.le_refl _)).trans hb6
  clear c0 c1 hb6
  go_loopw [7, 29] (fun c i wr => AddRel w w3 g (M.dig y).length x y c i wr) (fun _ i _ => (M.dig y).length + 1 - (intOf i).toNat)
  case atStart => exact ⟨0, _, 0, rfl, rfl, Nat.zero_le _, List.length_replicate, M.Lim.replicate _, by omega, by omega, by simp [M.val], by simpa using hown6, HD.out⟩
  case round =>
    obtain ⟨k, zs, q, hi, hc, hk, hlen, hlim, hq0, hq1, hval, hown, hbW⟩ := hrel
    subst hi hc
    clear hown6 HD
    have hsW := hbW.size
    have c0 := (hbW.cell (p := ⟨w.heap.size, 0, none⟩) (by simp)).trans HC.out.1
    have c1 := (hbW.cell (p := ⟨w.heap.size + 1, 0, none⟩) (by simp)).trans HC.out.2.1
    have c2 := (hbW.cell (p := ⟨w.heap.size + 1 + 1, 0, none⟩) (by simp)).trans HC.out.2.2.1
    have f2 := (hbW.frozen (p := ⟨w.heap.size + 1 + 1, 0, none⟩) (by simp)).trans HC.out.2.2.2
    have HBW := Lib.hid hbW
    clear hbW
    have HVAL := Lib.hid hval
    have HLN := Lib.hid hlen
    have HLIM := Lib.hid hlim
    have HOWN := Lib.hid hown
    clear hval hlen hlim hown
    have hRA : Row wr a (M.dig x) ca := HA.out.below (HBW.out.mono (by rw [HSZ.out]; exact Nat.le_refl _))
    have hRB : Row wr b (M.dig y) cb := HB.out.below (HBW.out.mono (by rw [HSZ.out]; exact Nat.le_refl _))
    by_cases hlt : k < (M.dig y).length + 1
    · have h1 := (M.lim_dig x).get k
      have h2 := (M.lim_dig y).get k
      have HRA := Lib.hid hRA
      have HRB := Lib.hid hRB
      clear hRA hRB
      obtain ⟨hgB, hcz, hfz⟩ := HOWN.out.at k (by rw [HLN.out]; exact hlt)
      go_wp2_with fail
      go_quiet ((go_at_call 70; first | exact Calls.quiet_of_same (limbAt_any _ _ _ _ _ (by first | exact HRA.out | exact HRA.out.drewN _)) | exact Calls.quiet_of_same (limbAt_any _ _ _ _ _ (by first | exact HRB.out | exact HRB.out.drewN _))))
      go_wp2
      go_roundw
      case rel =>
        refine ⟨k + 1, zs.set k ((q + (M.el (M.dig x) k + M.el (M.dig y) k)) % 16777216), _, by go_num, rfl, by omega, by rw [List.length_set]; exact HLN.out, HLIM.out.set k (by omega) (by omega), by omega, by omega, ?_, ?_, (belowN HBW.out nq).setCell (p := ⟨g, k, none⟩) hgB _⟩
        · rw [M.val_set_succ _ _ _ (by rw [HLN.out]; exact hlt), M.val_take_succ', M.val_take_succ', Int.pow_succ]
          exact M.add_step HVAL.out
        · rw [List.length_set]
          exact (HOWN.out.drewN nq).set k _
      case measure => simp [intOf]; omega
    · have hk' : k = (M.dig y).length + 1 := by omega
      have hx2 : (M.dig x).length ≤ (M.dig y).length + 0 := by omega
      have hy2 : (M.dig y).length ≤ (M.dig y).length + 0 := by omega
      have hend : M.trimL zs = M.dig (x + y) := by
        refine M.add_end HLIM.out hx2 hy2 hq0 (c := q) ?_
        have hv := HVAL.out
        rw [List.take_of_length_le (by rw [HLN.out]; omega), List.take_of_length_le (by omega), List.take_of_length_le (by omega), M.val_dig, M.val_dig, hk'] at hv
        exact hv
      have hw := within_any _ zs _ wr HOWN.out.rowAt
      have ho := HOWN.out.trimmed
      rw [HLN.out] at hw
      rw [hend] at hw ho
      obtain ⟨a', c', hcut⟩ := cut_slice (some ⟨g, 0, none⟩) ((M.dig y).length + 1) (M.dig (x + y))
      rw [hcut] at hw ho
      clear hRA hRB hend hcut
      have HO := Lib.hid ho
      have HK := Lib.hid hk'
      clear ho hk'
      have hs2 : w.heap.size + 1 + 1 < wr.heap.size := by have := HSZ.out; omega
      by_cases h200 : (M.dig (x + y)).length ≤ 200
      · rw [if_pos h200] at hw
        have HW := Lib.hid hw
        clear hw
        go_wp2_with (go_at_call 71; refine HW.out.mono ?_; rintro e w7 ⟨rfl, hb7⟩; have d2 := (hb7.cell (p := ⟨w.heap.size + 1 + 1, 0, none⟩) hs2).trans c2; have g2 := (hb7.frozen (p := ⟨w.heap.size + 1 + 1, 0, none⟩) hs2).trans f2)
        refine bodyPost_ret (v := .tuple #[.agg #[.slice a' (M.dig (x + y)).length c'], .int .i64 0]) (by simp [results, Tryd.results26, go_sem, d2]) rfl ⟨natRes_ok h200 ?_, ?_⟩
        · exact ((HO.out.below hb7).setBelow (p := ⟨w.heap.size + 1 + 1, 0, none⟩) (by simp) _).num
        · exact ((HB3.out.trans (HBW.out.mono (by omega))).trans (hb7.mono (by have := HSZ.out; omega))).setCell (p := ⟨w.heap.size + 1 + 1, 0, none⟩) (by simp; omega) _
      · rw [if_neg h200] at hw
        have HW := Lib.hid hw
        clear hw
        go_wp2_with (go_at_call 71; refine HW.out.mono ?_; rintro e w7 ⟨rfl, hb7⟩; have d2 := (hb7.cell (p := ⟨w.heap.size + 1 + 1, 0, none⟩) hs2).trans c2; have g2 := (hb7.frozen (p := ⟨w.heap.size + 1 + 1, 0, none⟩) hs2).trans f2)
        refine bodyPost_ret (v := .tuple #[.agg #[.slice none 0 0], .int .i64 3]) (by simp [results, Tryd.results26, go_sem, d2]) rfl ⟨natRes_limit h200, ?_⟩
        exact ((HB3.out.trans (HBW.out.mono (by omega))).trans (hb7.mono (by have := HSZ.out; omega))).setCell (p := ⟨w.heap.size + 1 + 1, 0, none⟩) (by simp; omega) _

set_option maxRecDepth 100000 in
set_option maxHeartbeats 2000000 in
theorem add_ge (a b : Option Addr) (ca cb x y : Nat) (w : World) (hx : (M.dig x).length ≤ 200) (hy : (M.dig y).length ≤ 200) (ha : Row w a (M.dig x) ca) (hb : Row w b (M.dig y) cb) (hle : (M.dig y).length ≤ (M.dig x).length) :
    Calls Tryd.prog 26 #[.agg #[.slice a (M.dig x).length ca], .agg #[.slice b (M.dig y).length cb]] w fun e W' =>
      NatRes (x + y) e W' ∧ Below w.heap.size w W' := by
  have Hvx := Lib.hid (vld_dig hx)
  have Hvy := Lib.hid (vld_dig hy)
  have hB3 := boxes_below w (.slice a (M.dig x).length ca) (.slice b (M.dig y).length cb)
  have hsz := boxes_size w (.slice a (M.dig x).length ca) (.slice b (M.dig y).length cb)
  have HA := Lib.hid (ha.below hB3)
  have HB := Lib.hid (hb.below hB3)
  have HC := Lib.hid (boxes_cells w (.slice a (M.dig x).length ca) (.slice b (M.dig y).length cb))
  have HB3 := Lib.hid hB3
  have HSZ := Lib.hid hsz
  have hla : (M.dig x).length ≤ ca := ha.room
  have hlb : (M.dig y).length ≤ cb := hb.room
  have hma := ha.most
  have hmb := hb.most
  clear ha hb hB3 hsz
  go_enter Tryd.func26, Tryd.ntmps26
  go_wp2_with fail
  generalize hw3 : (((w.alloc (.cells #[.slice a (M.dig x).length ca] 24)).alloc (.cells #[.slice b (M.dig y).length cb] 24)).alloc (.cells #[.slice none 0 0] 24)) = w3
  obtain rfl : boxes w (.slice a (M.dig x).length ca) (.slice b (M.dig y).length cb) = w3 := hw3
  generalize boxes w (.slice a (M.dig x).length ca) (.slice b (M.dig y).length cb) = w3 at *
  refine (valid_yes a _ ca _ HA.out Hvx.out).mono ?_
  rintro e w4 ⟨rfl, hb4⟩
  have hsz4 := hb4.size
  have c1 := (hb4.cell (p := ⟨w.heap.size + 1, 0, none⟩) (by rw [HSZ.out]; simp)).trans HC.out.2.1
  go_wp2_with fail
  refine (valid_yes b _ cb _ (HB.out.below hb4) Hvy.out).mono ?_
  rintro e w5 ⟨rfl, hb5⟩
  have hsz5 := hb5.size
  have c0 := (hb5.cell (p := ⟨w.heap.size, 0, none⟩) (by have := HSZ.out; simp; omega)).trans ((hb4.cell (p := ⟨w.heap.size, 0, none⟩) (by rw [HSZ.out]; simp)).trans HC.out.1)
  replace c1 := (hb5.cell (p := ⟨w.heap.size + 1, 0, none⟩) (by have := HSZ.out; simp; omega)).trans c1
  have HD : Hid (w.heap.size + 3 ≤ w5.heap.size ∧ Below w3.heap.size w3 w5) := ⟨by have := HSZ.out; omega, hb4.trans (hb5.mono hb4.size)⟩
  clear hb4 hb5 hsz4 hsz5
  go_wp2_with (at_make; refine wpList_make1 rfl _ _ rfl ((M.dig x).length + 1) rfl rfl (by omega) (by omega) HD.out.1 ?_; intro w6 hown6 hb6)
  generalize w5.heap.size = g at *
  replace HD : Hid (Below (w.heap.size + 3) w3 w6) := (HD.out.2.mono (by rw [HSZ.out]; exact Nat.le_refl _)).trans hb6
  clear c0 c1 hb6
  go_loopw [7, 29] (fun c i wr => AddRel w w3 g (M.dig x).length x y c i wr) (fun _ i _ => (M.dig x).length + 1 - (intOf i).toNat)
  case atStart => exact ⟨0, _, 0, rfl, rfl, Nat.zero_le _, List.length_replicate, M.Lim.replicate _, by omega, by omega, by simp [M.val], by simpa using hown6, HD.out⟩
  case round =>
    obtain ⟨k, zs, q, hi, hc, hk, hlen, hlim, hq0, hq1, hval, hown, hbW⟩ := hrel
    subst hi hc
    clear hown6 HD
    have hsW := hbW.size
    have c0 := (hbW.cell (p := ⟨w.heap.size, 0, none⟩) (by simp)).trans HC.out.1
    have c1 := (hbW.cell (p := ⟨w.heap.size + 1, 0, none⟩) (by simp)).trans HC.out.2.1
    have c2 := (hbW.cell (p := ⟨w.heap.size + 1 + 1, 0, none⟩) (by simp)).trans HC.out.2.2.1
    have f2 := (hbW.frozen (p := ⟨w.heap.size + 1 + 1, 0, none⟩) (by simp)).trans HC.out.2.2.2
    have HBW := Lib.hid hbW
    clear hbW
    have HVAL := Lib.hid hval
    have HLN := Lib.hid hlen
    have HLIM := Lib.hid hlim
    have HOWN := Lib.hid hown
    clear hval hlen hlim hown
    have hRA : Row wr a (M.dig x) ca := HA.out.below (HBW.out.mono (by rw [HSZ.out]; exact Nat.le_refl _))
    have hRB : Row wr b (M.dig y) cb := HB.out.below (HBW.out.mono (by rw [HSZ.out]; exact Nat.le_refl _))
    by_cases hlt : k < (M.dig x).length + 1
    · have h1 := (M.lim_dig x).get k
      have h2 := (M.lim_dig y).get k
      have HRA := Lib.hid hRA
      have HRB := Lib.hid hRB
      clear hRA hRB
      obtain ⟨hgB, hcz, hfz⟩ := HOWN.out.at k (by rw [HLN.out]; exact hlt)
      go_wp2_with fail
      go_quiet ((go_at_call 70; first | exact Calls.quiet_of_same (limbAt_any _ _ _ _ _ (by first | exact HRA.out | exact HRA.out.drewN _)) | exact Calls.quiet_of_same (limbAt_any _ _ _ _ _ (by first | exact HRB.out | exact HRB.out.drewN _))))
      go_wp2
      go_roundw
      case rel =>
        refine ⟨k + 1, zs.set k ((q + (M.el (M.dig x) k + M.el (M.dig y) k)) % 16777216), _, by go_num, rfl, by omega, by rw [List.length_set]; exact HLN.out, HLIM.out.set k (by omega) (by omega), by omega, by omega, ?_, ?_, (belowN HBW.out nq).setCell (p := ⟨g, k, none⟩) hgB _⟩
        · rw [M.val_set_succ _ _ _ (by rw [HLN.out]; exact hlt), M.val_take_succ', M.val_take_succ', Int.pow_succ]
          exact M.add_step HVAL.out
        · rw [List.length_set]
          exact (HOWN.out.drewN nq).set k _
      case measure => simp [intOf]; omega
    · have hk' : k = (M.dig x).length + 1 := by omega
      have hx2 : (M.dig x).length ≤ (M.dig x).length + 0 := by omega
      have hy2 : (M.dig y).length ≤ (M.dig x).length + 0 := by omega
      have hend : M.trimL zs = M.dig (x + y) := by
        refine M.add_end HLIM.out hx2 hy2 hq0 (c := q) ?_
        have hv := HVAL.out
        rw [List.take_of_length_le (by rw [HLN.out]; omega), List.take_of_length_le (by omega), List.take_of_length_le (by omega), M.val_dig, M.val_dig, hk'] at hv
        exact hv
      have hw := within_any _ zs _ wr HOWN.out.rowAt
      have ho := HOWN.out.trimmed
      rw [HLN.out] at hw
      rw [hend] at hw ho
      obtain ⟨a', c', hcut⟩ := cut_slice (some ⟨g, 0, none⟩) ((M.dig x).length + 1) (M.dig (x + y))
      rw [hcut] at hw ho
      clear hRA hRB hend hcut
      have HO := Lib.hid ho
      have HK := Lib.hid hk'
      clear ho hk'
      have hs2 : w.heap.size + 1 + 1 < wr.heap.size := by have := HSZ.out; omega
      by_cases h200 : (M.dig (x + y)).length ≤ 200
      · rw [if_pos h200] at hw
        have HW := Lib.hid hw
        clear hw
        go_wp2_with (go_at_call 71; refine HW.out.mono ?_; rintro e w7 ⟨rfl, hb7⟩; have d2 := (hb7.cell (p := ⟨w.heap.size + 1 + 1, 0, none⟩) hs2).trans c2; have g2 := (hb7.frozen (p := ⟨w.heap.size + 1 + 1, 0, none⟩) hs2).trans f2)
        refine bodyPost_ret (v := .tuple #[.agg #[.slice a' (M.dig (x + y)).length c'], .int .i64 0]) (by simp [results, Tryd.results26, go_sem, d2]) rfl ⟨natRes_ok h200 ?_, ?_⟩
        · exact ((HO.out.below hb7).setBelow (p := ⟨w.heap.size + 1 + 1, 0, none⟩) (by simp) _).num
        · exact ((HB3.out.trans (HBW.out.mono (by omega))).trans (hb7.mono (by have := HSZ.out; omega))).setCell (p := ⟨w.heap.size + 1 + 1, 0, none⟩) (by simp; omega) _
      · rw [if_neg h200] at hw
        have HW := Lib.hid hw
        clear hw
        go_wp2_with (go_at_call 71; refine HW.out.mono ?_; rintro e w7 ⟨rfl, hb7⟩; have d2 := (hb7.cell (p := ⟨w.heap.size + 1 + 1, 0, none⟩) hs2).trans c2; have g2 := (hb7.frozen (p := ⟨w.heap.size + 1 + 1, 0, none⟩) hs2).trans f2)
        refine bodyPost_ret (v := .tuple #[.agg #[.slice none 0 0], .int .i64 3]) (by simp [results, Tryd.results26, go_sem, d2]) rfl ⟨natRes_limit h200, ?_⟩
        exact ((HB3.out.trans (HBW.out.mono (by omega))).trans (hb7.mono (by have := HSZ.out; omega))).setCell (p := ⟨w.heap.size + 1 + 1, 0, none⟩) (by simp; omega) _


/-- **nat.Add** of two numbers. -/
theorem add_num {u v : Value} {x y : Nat} {w : World} (hx : (M.dig x).length ≤ 200) (hy : (M.dig y).length ≤ 200) (hu : Num w u x) (hv : Num w v y) :
    Calls Tryd.prog 26 #[u, v] w fun e W' => NatRes (x + y) e W' ∧ Below w.heap.size w W' := by
  obtain ⟨a, ca, rfl, ha⟩ := hu
  obtain ⟨b, cb, rfl, hb⟩ := hv
  rcases Nat.lt_or_ge (M.dig x).length (M.dig y).length with h | h
  · exact add_lt a b ca cb x y w hx hy ha hb h
  · exact add_ge a b ca cb x y w hx hy ha hb h
end Go.Proofs.YtamniclnhenmgaaDoor
