/- nat.Add. nat.Mul. What one round of nat.shrink does to memory. nat.shrink: a slice that the caller owns is divided by a small number, in place. slices.Clone and nat.scale. Plain arithmetic: the numbers of sets of k out of n things. No program is named here. nat.Choose. slices.Clone of a slice of ints that holds something. Slices of bytes that a call has made itself. strings.TrimLeft at "0" and slices.Reverse at bytes, by the shelf's contracts. Plain arithmetic: decimal digits as bytes. No program is named here. nat.Print. The statements' own check 'awake'. math/bits.Len and cmp.Compare at ints, by the shelf's contracts. nat.Power. The reference's Same at equal numbers, and made.Mod. -/
import Derived.Test.YtmejneobfkbgeaaDoorB2
import Derived.WalkSpells
import Derived.Shelf.Strings.Trim
import Derived.Shelf.SlicesE.Reverse
import Derived.Laws.BytesArg
import Derived.Shelf.Small.Bits
import Derived.Shelf.Small.Wraps
import Derived.Test.YtmejneobfkbgeaaDoorProg
namespace Go.Proofs.YtmejneobfkbgeaaDoor
open Go Go.RowKit Go.Shelf
attribute [local go_sem] mask24

theorem vld_dig {n : Nat} (h : (M.dig n).length ≤ 200) : Vld (M.dig n) := by
  refine ⟨h, fun h0 => ?_, M.lim_dig n⟩
  have hn : n ≠ 0 := by intro e; rw [e, M.dig_zero] at h0; simp at h0
  have := M.dig_last hn
  rw [M.el_lt (by omega)]
  intro e
  apply this
  rw [List.getLast?_eq_getElem?, List.getElem?_eq_getElem (by omega), e]

/-- The world behind the three boxes with which Add and its kin begin. -/
def boxes (w : World) (u v : Value) : World := ((w.alloc (.cells #[u] 24)).alloc (.cells #[v] 24)).alloc (.cells #[.slice none 0 0] 24)

theorem boxes_size (w : World) (u v : Value) : (boxes w u v).heap.size = w.heap.size + 3 := by simp [boxes]
theorem boxes_below (w : World) (u v : Value) : Below w.heap.size w (boxes w u v) := (((Below.refl _ w).alloc (Nat.le_refl _) _).alloc (by simp) _).alloc (by simp; omega) _
theorem boxes_cells (w : World) (u v : Value) : (boxes w u v).cell? ⟨w.heap.size, 0, none⟩ = some u ∧ (boxes w u v).cell? ⟨w.heap.size + 1, 0, none⟩ = some v ∧ (boxes w u v).cell? ⟨w.heap.size + 1 + 1, 0, none⟩ = some (.slice none 0 0) ∧ (boxes w u v).frozen? ⟨w.heap.size + 1 + 1, 0, none⟩ = false := by
  have h0 := cell_new w u 24
  have h1 := cell_new (w.alloc (.cells #[u] 24)) v 24
  have h2 := cell_new ((w.alloc (.cells #[u] 24)).alloc (.cells #[v] 24)) (.slice none 0 0) 24
  have h3 := frozen_new ((w.alloc (.cells #[u] 24)).alloc (.cells #[v] 24)) (.slice none 0 0) 24
  simp only [World.size_alloc] at h1 h2 h3
  exact ⟨cell_later _ (cell_later _ h0), cell_later _ h1, h2, h3⟩

def AddRel (w w3 : World) (g n x y : Nat) (c i : Value) (W : World) : Prop :=
  ∃ (k : Nat) (zs : List Int) (q : Int), i = .int .i64 (k : Int) ∧ c = .int .i64 q ∧ k ≤ n + 1 ∧ zs.length = n + 1 ∧ M.Lim zs ∧ 0 ≤ q ∧ q ≤ 1 ∧
    M.val (zs.take k) + 16777216 ^ k * q = M.val ((M.dig x).take k) + M.val ((M.dig y).take k) ∧ Own W (w.heap.size + 3) (.slice (some ⟨g, 0, none⟩) zs.length (n + 1)) zs ∧ Below (w.heap.size + 3) w3 W

set_option maxRecDepth 100000 in
set_option maxHeartbeats 2000000 in
theorem add_lt (a b : Option Addr) (ca cb x y : Nat) (w : World) (hx : (M.dig x).length ≤ 200) (hy : (M.dig y).length ≤ 200) (ha : Row w a (M.dig x) ca) (hb : Row w b (M.dig y) cb) (hle : (M.dig x).length < (M.dig y).length) :
    Calls Tryd.prog 30 #[.agg #[.slice a (M.dig x).length ca], .agg #[.slice b (M.dig y).length cb]] w fun e W' =>
      NatRes (x + y) e W' ∧ Below w.heap.size w W' := by
  have Hvx := Lib.hid (vld_dig hx)
  have Hvy := Lib.hid (vld_dig hy)
  have hB3 := boxes_below w (.slice a (M.dig x).length ca) (.slice b (M.dig y).length cb)
  have hsz := boxes_size w (.slice a (M.dig x).length ca) (.slice b (M.dig y).length cb)
  have HA := Lib.hid (ha.below hB3)
  have HB := Lib.hid (hb.below hB3)
  have HC := Lib.hid (boxes_cells w (.slice a (M.dig x).length ca) (.slice b (M.dig y).length cb))
  have HB3 := Lib.hid hB3
  have HSZ := Lib.hid hsz
  have hla : (M.dig x).length ≤ ca := ha.room
  have hlb : (M.dig y).length ≤ cb := hb.room
  have hma := ha.most
  have hmb := hb.most
  clear ha hb hB3 hsz
  go_enter Tryd.func30, Tryd.ntmps30
  go_wp2_with fail
  generalize hw3 : (((w.alloc (.cells #[.slice a (M.dig x).length ca] 24)).alloc (.cells #[.slice b (M.dig y).length cb] 24)).alloc (.cells #[.slice none 0 0] 24)) = w3
  obtain rfl : boxes w (.slice a (M.dig x).length ca) (.slice b (M.dig y).length cb) = w3 := hw3
  generalize boxes w (.slice a (M.dig x).length ca) (.slice b (M.dig y).length cb) = w3 at *
  refine (valid_yes a _ ca _ HA.out Hvx.out).mono ?_
  rintro e w4 ⟨rfl, hb4⟩
  have hsz4 := hb4.size
  have c1 := (hb4.cell (p := ⟨w.heap.size + 1, 0, none⟩) (by rw [HSZ.out]; simp)).trans HC.out.2.1
  go_wp2_with fail
  refine (valid_yes b _ cb _ (HB.out.below hb4) Hvy.out).mono ?_
  rintro e w5 ⟨rfl, hb5⟩
  have hsz5 := hb5.size
  have c0 := (hb5.cell (p := ⟨w.heap.size, 0, none⟩) (by have := HSZ.out; simp; omega)).trans ((hb4.cell (p := ⟨w.heap.size, 0, none⟩) (by rw [HSZ.out]; simp)).trans HC.out.1)
  replace c1 := (hb5.cell (p := ⟨w.heap.size + 1, 0, none⟩) (by have := HSZ.out; simp; omega)).trans c1
  have HD : Hid (w.heap.size + 3 ≤ w5.heap.size ∧ Below w3.heap.size w3 w5) := ⟨by have := HSZ.out; omega, hb4.trans (hb5.mono hb4.size)⟩
  clear hb4 hb5 hsz4 hsz5
  go_wp2_with (at_make; refine wpList_make1 rfl _ _ rfl ((M.dig y).length + 1) rfl rfl (by omega) (by omega) HD.out.1 ?_; intro w6 hown6 hb6)
  generalize w5.heap.size = g at *
  replace HD : Hid (Below (w.heap.size + 3) w3 w6) := (HD.out.2.mono (by rw [HSZ.out]; exact Nat.le_refl _)).trans hb6
  clear c0 c1 hb6
  go_loopw [7, 29] (fun c i wr => AddRel w w3 g (M.dig y).length x y c i wr) (fun _ i _ => (M.dig y).length + 1 - (intOf i).toNat)
  case atStart => exact ⟨0, _, 0, rfl, rfl, Nat.zero_le _, List.length_replicate, M.Lim.replicate _, by omega, by omega, by simp [M.val], by simpa using hown6, HD.out⟩
  case round =>
    obtain ⟨k, zs, q, hi, hc, hk, hlen, hlim, hq0, hq1, hval, hown, hbW⟩ := hrel
    subst hi hc
    clear hown6 HD
    have hsW := hbW.size
    have c0 := (hbW.cell (p := ⟨w.heap.size, 0, none⟩) (by simp)).trans HC.out.1
    have c1 := (hbW.cell (p := ⟨w.heap.size + 1, 0, none⟩) (by simp)).trans HC.out.2.1
    have c2 := (hbW.cell (p := ⟨w.heap.size + 1 + 1, 0, none⟩) (by simp)).trans HC.out.2.2.1
    have f2 := (hbW.frozen (p := ⟨w.heap.size + 1 + 1, 0, none⟩) (by simp)).trans HC.out.2.2.2
    have HBW := Lib.hid hbW
    clear hbW
    have HVAL := Lib.hid hval
    have HLN := Lib.hid hlen
    have HLIM := Lib.hid hlim
    have HOWN := Lib.hid hown
    clear hval hlen hlim hown
    have hRA : Row wr a (M.dig x) ca := HA.out.below (HBW.out.mono (by rw [HSZ.out]; exact Nat.le_refl _))
    have hRB : Row wr b (M.dig y) cb := HB.out.below (HBW.out.mono (by rw [HSZ.out]; exact Nat.le_refl _))
    by_cases hlt : k < (M.dig y).length + 1
    · have h1 := (M.lim_dig x).get k
      have h2 := (M.lim_dig y).get k
      have HRA := Lib.hid hRA
      have HRB := Lib.hid hRB
      clear hRA hRB
      obtain ⟨hgB, hcz, hfz⟩ := HOWN.out.at k (by rw [HLN.out]; exact hlt)
      go_wp2_with fail
      go_quiet ((go_at_call 51; first | exact Calls.quiet_of_same (limbAt_any _ _ _ _ _ (by first | exact HRA.out | exact HRA.out.drewN _)) | exact Calls.quiet_of_same (limbAt_any _ _ _ _ _ (by first | exact HRB.out | exact HRB.out.drewN _))))
      go_wp2
      go_roundw
      case rel =>
        refine ⟨k + 1, zs.set k ((q + (M.el (M.dig x) k + M.el (M.dig y) k)) % 16777216), _, by go_num, rfl, by omega, by rw [List.length_set]; exact HLN.out, HLIM.out.set k (by omega) (by omega), by omega, by omega, ?_, ?_, (belowN HBW.out nq).setCell (p := ⟨g, k, none⟩) hgB _⟩
        · rw [M.val_set_succ _ _ _ (by rw [HLN.out]; exact hlt), M.val_take_succ', M.val_take_succ', Int.pow_succ]
          exact M.add_step HVAL.out
        · rw [List.length_set]
          exact (HOWN.out.drewN nq).set k _
      case measure => simp [intOf]; omega
    · have hk' : k = (M.dig y).length + 1 := by omega
      have hx2 : (M.dig x).length ≤ (M.dig y).length + 0 := by omega
      have hy2 : (M.dig y).length ≤ (M.dig y).length + 0 := by omega
      have hend : M.trimL zs = M.dig (x + y) := by
        refine M.add_end HLIM.out hx2 hy2 hq0 (c := q) ?_
        have hv := HVAL.out
        rw [List.take_of_length_le (by rw [HLN.out]; omega), List.take_of_length_le (by omega), List.take_of_length_le (by omega), M.val_dig, M.val_dig, hk'] at hv
        exact hv
      have hw := within_any _ zs _ wr HOWN.out.rowAt
      have ho := HOWN.out.trimmed
      rw [HLN.out] at hw
      rw [hend] at hw ho
      obtain ⟨a', c', hcut⟩ := cut_slice (some ⟨g, 0, none⟩) ((M.dig y).length + 1) (M.dig (x + y))
      rw [hcut] at hw ho
      clear hRA hRB hend hcut
      have HO := Lib.hid ho
      have HK := Lib.hid hk'
      clear ho hk'
      have hs2 : w.heap.size + 1 + 1 < wr.heap.size := by have := HSZ.out; omega
      by_cases h200 : (M.dig (x + y)).length ≤ 200
      · rw [if_pos h200] at hw
        have HW := Lib.hid hw
        clear hw
        go_wp2_with (go_at_call 47; refine HW.out.mono ?_; rintro e w7 ⟨rfl, hb7⟩; have d2 := (hb7.cell (p := ⟨w.heap.size + 1 + 1, 0, none⟩) hs2).trans c2; have g2 := (hb7.frozen (p := ⟨w.heap.size + 1 + 1, 0, none⟩) hs2).trans f2)
        refine bodyPost_ret (v := .tuple #[.agg #[.slice a' (M.dig (x + y)).length c'], .int .i64 0]) (by simp [results, Tryd.results30, go_sem, d2]) rfl ⟨natRes_ok h200 ?_, ?_⟩
        · exact ((HO.out.below hb7).setBelow (p := ⟨w.heap.size + 1 + 1, 0, none⟩) (by simp) _).num
        · exact ((HB3.out.trans (HBW.out.mono (by omega))).trans (hb7.mono (by have := HSZ.out; omega))).setCell (p := ⟨w.heap.size + 1 + 1, 0, none⟩) (by simp; omega) _
      · rw [if_neg h200] at hw
        have HW := Lib.hid hw
        clear hw
        go_wp2_with (go_at_call 47; refine HW.out.mono ?_; rintro e w7 ⟨rfl, hb7⟩; have d2 := (hb7.cell (p := ⟨w.heap.size + 1 + 1, 0, none⟩) hs2).trans c2; have g2 := (hb7.frozen (p := ⟨w.heap.size + 1 + 1, 0, none⟩) hs2).trans f2)
        refine bodyPost_ret (v := .tuple #[.agg #[.slice none 0 0], .int .i64 3]) (by simp [results, Tryd.results30, go_sem, d2]) rfl ⟨natRes_limit h200, ?_⟩
        exact ((HB3.out.trans (HBW.out.mono (by omega))).trans (hb7.mono (by have := HSZ.out; omega))).setCell (p := ⟨w.heap.size + 1 + 1, 0, none⟩) (by simp; omega) _

set_option maxRecDepth 100000 in
set_option maxHeartbeats 2000000 in
theorem add_ge (a b : Option Addr) (ca cb x y : Nat) (w : World) (hx : (M.dig x).length ≤ 200) (hy : (M.dig y).length ≤ 200) (ha : Row w a (M.dig x) ca) (hb : Row w b (M.dig y) cb) (hle : (M.dig y).length ≤ (M.dig x).length) :
    Calls Tryd.prog 30 #[.agg #[.slice a (M.dig x).length ca], .agg #[.slice b (M.dig y).length cb]] w fun e W' =>
      NatRes (x + y) e W' ∧ Below w.heap.size w W' := by
  have Hvx := Lib.hid (vld_dig hx)
  have Hvy := Lib.hid (vld_dig hy)
  have hB3 := boxes_below w (.slice a (M.dig x).length ca) (.slice b (M.dig y).length cb)
  have hsz := boxes_size w (.slice a (M.dig x).length ca) (.slice b (M.dig y).length cb)
  have HA := Lib.hid (ha.below hB3)
  have HB := Lib.hid (hb.below hB3)
  have HC := Lib.hid (boxes_cells w (.slice a (M.dig x).length ca) (.slice b (M.dig y).length cb))
  have HB3 := Lib.hid hB3
  have HSZ := Lib.hid hsz
  have hla : (M.dig x).length ≤ ca := ha.room
  have hlb : (M.dig y).length ≤ cb := hb.room
  have hma := ha.most
  have hmb := hb.most
  clear ha hb hB3 hsz
  go_enter Tryd.func30, Tryd.ntmps30
  go_wp2_with fail
  generalize hw3 : (((w.alloc (.cells #[.slice a (M.dig x).length ca] 24)).alloc (.cells #[.slice b (M.dig y).length cb] 24)).alloc (.cells #[.slice none 0 0] 24)) = w3
  obtain rfl : boxes w (.slice a (M.dig x).length ca) (.slice b (M.dig y).length cb) = w3 := hw3
  generalize boxes w (.slice a (M.dig x).length ca) (.slice b (M.dig y).length cb) = w3 at *
  refine (valid_yes a _ ca _ HA.out Hvx.out).mono ?_
  rintro e w4 ⟨rfl, hb4⟩
  have hsz4 := hb4.size
  have c1 := (hb4.cell (p := ⟨w.heap.size + 1, 0, none⟩) (by rw [HSZ.out]; simp)).trans HC.out.2.1
  go_wp2_with fail
  refine (valid_yes b _ cb _ (HB.out.below hb4) Hvy.out).mono ?_
  rintro e w5 ⟨rfl, hb5⟩
  have hsz5 := hb5.size
  have c0 := (hb5.cell (p := ⟨w.heap.size, 0, none⟩) (by have := HSZ.out; simp; omega)).trans ((hb4.cell (p := ⟨w.heap.size, 0, none⟩) (by rw [HSZ.out]; simp)).trans HC.out.1)
  replace c1 := (hb5.cell (p := ⟨w.heap.size + 1, 0, none⟩) (by have := HSZ.out; simp; omega)).trans c1
  have HD : Hid (w.heap.size + 3 ≤ w5.heap.size ∧ Below w3.heap.size w3 w5) := ⟨by have := HSZ.out; omega, hb4.trans (hb5.mono hb4.size)⟩
  clear hb4 hb5 hsz4 hsz5
  go_wp2_with (at_make; refine wpList_make1 rfl _ _ rfl ((M.dig x).length + 1) rfl rfl (by omega) (by omega) HD.out.1 ?_; intro w6 hown6 hb6)
  generalize w5.heap.size = g at *
  replace HD : Hid (Below (w.heap.size + 3) w3 w6) := (HD.out.2.mono (by rw [HSZ.out]; exact Nat.le_refl _)).trans hb6
  clear c0 c1 hb6
  go_loopw [7, 29] (fun c i wr => AddRel w w3 g (M.dig x).length x y c i wr) (fun _ i _ => (M.dig x).length + 1 - (intOf i).toNat)
  case atStart => exact ⟨0, _, 0, rfl, rfl, Nat.zero_le _, List.length_replicate, M.Lim.replicate _, by omega, by omega, by simp [M.val], by simpa using hown6, HD.out⟩
  case round =>
    obtain ⟨k, zs, q, hi, hc, hk, hlen, hlim, hq0, hq1, hval, hown, hbW⟩ := hrel
    subst hi hc
    clear hown6 HD
    have hsW := hbW.size
    have c0 := (hbW.cell (p := ⟨w.heap.size, 0, none⟩) (by simp)).trans HC.out.1
    have c1 := (hbW.cell (p := ⟨w.heap.size + 1, 0, none⟩) (by simp)).trans HC.out.2.1
    have c2 := (hbW.cell (p := ⟨w.heap.size + 1 + 1, 0, none⟩) (by simp)).trans HC.out.2.2.1
    have f2 := (hbW.frozen (p := ⟨w.heap.size + 1 + 1, 0, none⟩) (by simp)).trans HC.out.2.2.2
    have HBW := Lib.hid hbW
    clear hbW
    have HVAL := Lib.hid hval
    have HLN := Lib.hid hlen
    have HLIM := Lib.hid hlim
    have HOWN := Lib.hid hown
    clear hval hlen hlim hown
    have hRA : Row wr a (M.dig x) ca := HA.out.below (HBW.out.mono (by rw [HSZ.out]; exact Nat.le_refl _))
    have hRB : Row wr b (M.dig y) cb := HB.out.below (HBW.out.mono (by rw [HSZ.out]; exact Nat.le_refl _))
    by_cases hlt : k < (M.dig x).length + 1
    · have h1 := (M.lim_dig x).get k
      have h2 := (M.lim_dig y).get k
      have HRA := Lib.hid hRA
      have HRB := Lib.hid hRB
      clear hRA hRB
      obtain ⟨hgB, hcz, hfz⟩ := HOWN.out.at k (by rw [HLN.out]; exact hlt)
      go_wp2_with fail
      go_quiet ((go_at_call 51; first | exact Calls.quiet_of_same (limbAt_any _ _ _ _ _ (by first | exact HRA.out | exact HRA.out.drewN _)) | exact Calls.quiet_of_same (limbAt_any _ _ _ _ _ (by first | exact HRB.out | exact HRB.out.drewN _))))
      go_wp2
      go_roundw
      case rel =>
        refine ⟨k + 1, zs.set k ((q + (M.el (M.dig x) k + M.el (M.dig y) k)) % 16777216), _, by go_num, rfl, by omega, by rw [List.length_set]; exact HLN.out, HLIM.out.set k (by omega) (by omega), by omega, by omega, ?_, ?_, (belowN HBW.out nq).setCell (p := ⟨g, k, none⟩) hgB _⟩
        · rw [M.val_set_succ _ _ _ (by rw [HLN.out]; exact hlt), M.val_take_succ', M.val_take_succ', Int.pow_succ]
          exact M.add_step HVAL.out
        · rw [List.length_set]
          exact (HOWN.out.drewN nq).set k _
      case measure => simp [intOf]; omega
    · have hk' : k = (M.dig x).length + 1 := by omega
      have hx2 : (M.dig x).length ≤ (M.dig x).length + 0 := by omega
      have hy2 : (M.dig y).length ≤ (M.dig x).length + 0 := by omega
      have hend : M.trimL zs = M.dig (x + y) := by
        refine M.add_end HLIM.out hx2 hy2 hq0 (c := q) ?_
        have hv := HVAL.out
        rw [List.take_of_length_le (by rw [HLN.out]; omega), List.take_of_length_le (by omega), List.take_of_length_le (by omega), M.val_dig, M.val_dig, hk'] at hv
        exact hv
      have hw := within_any _ zs _ wr HOWN.out.rowAt
      have ho := HOWN.out.trimmed
      rw [HLN.out] at hw
      rw [hend] at hw ho
      obtain ⟨a', c', hcut⟩ := cut_slice (some ⟨g, 0, none⟩) ((M.dig x).length + 1) (M.dig (x + y))
      rw [hcut] at hw ho
      clear hRA hRB hend hcut
      have HO := Lib.hid ho
      have HK := Lib.hid hk'
      clear ho hk'
      have hs2 : w.heap.size + 1 + 1 < wr.heap.size := by have := HSZ.out; omega
      by_cases h200 : (M.dig (x + y)).length ≤ 200
      · rw [if_pos h200] at hw
        have HW := Lib.hid hw
        clear hw
        go_wp2_with (go_at_call 47; refine HW.out.mono ?_; rintro e w7 ⟨rfl, hb7⟩; have d2 := (hb7.cell (p := ⟨w.heap.size + 1 + 1, 0, none⟩) hs2).trans c2; have g2 := (hb7.frozen (p := ⟨w.heap.size + 1 + 1, 0, none⟩) hs2).trans f2)
        refine bodyPost_ret (v := .tuple #[.agg #[.slice a' (M.dig (x + y)).length c'], .int .i64 0]) (by simp [results, Tryd.results30, go_sem, d2]) rfl ⟨natRes_ok h200 ?_, ?_⟩
        · exact ((HO.out.below hb7).setBelow (p := ⟨w.heap.size + 1 + 1, 0, none⟩) (by simp) _).num
        · exact ((HB3.out.trans (HBW.out.mono (by omega))).trans (hb7.mono (by have := HSZ.out; omega))).setCell (p := ⟨w.heap.size + 1 + 1, 0, none⟩) (by simp; omega) _
      · rw [if_neg h200] at hw
        have HW := Lib.hid hw
        clear hw
        go_wp2_with (go_at_call 47; refine HW.out.mono ?_; rintro e w7 ⟨rfl, hb7⟩; have d2 := (hb7.cell (p := ⟨w.heap.size + 1 + 1, 0, none⟩) hs2).trans c2; have g2 := (hb7.frozen (p := ⟨w.heap.size + 1 + 1, 0, none⟩) hs2).trans f2)
        refine bodyPost_ret (v := .tuple #[.agg #[.slice none 0 0], .int .i64 3]) (by simp [results, Tryd.results30, go_sem, d2]) rfl ⟨natRes_limit h200, ?_⟩
        exact ((HB3.out.trans (HBW.out.mono (by omega))).trans (hb7.mono (by have := HSZ.out; omega))).setCell (p := ⟨w.heap.size + 1 + 1, 0, none⟩) (by simp; omega) _


/-- **nat.Add** of two numbers. -/
theorem add_num {u v : Value} {x y : Nat} {w : World} (hx : (M.dig x).length ≤ 200) (hy : (M.dig y).length ≤ 200) (hu : Num w u x) (hv : Num w v y) :
    Calls Tryd.prog 30 #[u, v] w fun e W' => NatRes (x + y) e W' ∧ Below w.heap.size w W' := by
  obtain ⟨a, ca, rfl, ha⟩ := hu
  obtain ⟨b, cb, rfl, hb⟩ := hv
  rcases Nat.lt_or_ge (M.dig x).length (M.dig y).length with h | h
  · exact add_lt a b ca cb x y w hx hy ha hb h
  · exact add_ge a b ca cb x y w hx hy ha hb h
end Go.Proofs.YtmejneobfkbgeaaDoor

namespace Go.Proofs.YtmejneobfkbgeaaDoor
open Go Go.RowKit Go.Shelf
attribute [local go_sem] mask24

def MulRel (w w3 : World) (g x y : Nat) (i : Value) (W : World) : Prop :=
  ∃ (k : Nat) (zs : List Int), i = .int .i64 (k : Int) ∧ k ≤ (M.dig x).length ∧ zs.length = (M.dig x).length + (M.dig y).length ∧ M.Lim zs ∧ (∀ m : Nat, k + (M.dig y).length ≤ m → M.el zs m = 0) ∧
    M.val zs = M.val ((M.dig x).take k) * y ∧ Own W (w.heap.size + 3) (.slice (some ⟨g, 0, none⟩) zs.length zs.length) zs ∧ Below (w.heap.size + 3) w3 W

def MulIn (w w3 : World) (g x y k : Nat) (c i : Value) (W : World) : Prop :=
  ∃ (j : Nat) (zs : List Int) (q : Int), i = .int .i64 (j : Int) ∧ c = .int .i64 q ∧ j ≤ (M.dig y).length ∧ zs.length = (M.dig x).length + (M.dig y).length ∧ M.Lim zs ∧ (∀ m : Nat, k + (M.dig y).length ≤ m → M.el zs m = 0) ∧ 0 ≤ q ∧ q < 16777216 ∧
    M.val zs + 16777216 ^ (k + j) * q = M.val ((M.dig x).take k) * y + 16777216 ^ k * (M.el (M.dig x) k * M.val ((M.dig y).take j)) ∧ Own W (w.heap.size + 3) (.slice (some ⟨g, 0, none⟩) zs.length zs.length) zs ∧ Below (w.heap.size + 3) w3 W

set_option maxRecDepth 100000 in
set_option maxHeartbeats 2000000 in
theorem mul_any (a b : Option Addr) (ca cb x y : Nat) (w : World) (hx : (M.dig x).length ≤ 200) (hy : (M.dig y).length ≤ 200) (ha : Row w a (M.dig x) ca) (hb : Row w b (M.dig y) cb) :
    Calls Tryd.prog 24 #[.agg #[.slice a (M.dig x).length ca], .agg #[.slice b (M.dig y).length cb]] w fun e W' => NatRes (x * y) e W' ∧ Below w.heap.size w W' := by
  have Hvx := Lib.hid (vld_dig hx)
  have Hvy := Lib.hid (vld_dig hy)
  have hB3 := boxes_below w (.slice a (M.dig x).length ca) (.slice b (M.dig y).length cb)
  have hsz := boxes_size w (.slice a (M.dig x).length ca) (.slice b (M.dig y).length cb)
  have HA := Lib.hid (ha.below hB3)
  have HB := Lib.hid (hb.below hB3)
  have HC := Lib.hid (boxes_cells w (.slice a (M.dig x).length ca) (.slice b (M.dig y).length cb))
  have HB3 := Lib.hid hB3
  have HSZ := Lib.hid hsz
  have hla : (M.dig x).length ≤ ca := ha.room
  have hlb : (M.dig y).length ≤ cb := hb.room
  have hma := ha.most
  have hmb := hb.most
  clear ha hb hB3 hsz
  go_enter Tryd.func24, Tryd.ntmps24
  go_wp2_with fail
  generalize hw3 : (((w.alloc (.cells #[.slice a (M.dig x).length ca] 24)).alloc (.cells #[.slice b (M.dig y).length cb] 24)).alloc (.cells #[.slice none 0 0] 24)) = w3
  obtain rfl : boxes w (.slice a (M.dig x).length ca) (.slice b (M.dig y).length cb) = w3 := hw3
  generalize boxes w (.slice a (M.dig x).length ca) (.slice b (M.dig y).length cb) = w3 at *
  refine (valid_yes a _ ca _ HA.out Hvx.out).mono ?_
  rintro e w4 ⟨rfl, hb4⟩
  have hsz4 := hb4.size
  have c1 := (hb4.cell (p := ⟨w.heap.size + 1, 0, none⟩) (by rw [HSZ.out]; simp)).trans HC.out.2.1
  go_wp2_with fail
  refine (valid_yes b _ cb _ (HB.out.below hb4) Hvy.out).mono ?_
  rintro e w5 ⟨rfl, hb5⟩
  have hsz5 := hb5.size
  have c0 := (hb5.cell (p := ⟨w.heap.size, 0, none⟩) (by have := HSZ.out; simp; omega)).trans ((hb4.cell (p := ⟨w.heap.size, 0, none⟩) (by rw [HSZ.out]; simp)).trans HC.out.1)
  replace c1 := (hb5.cell (p := ⟨w.heap.size + 1, 0, none⟩) (by have := HSZ.out; simp; omega)).trans c1
  have HD : Hid (w.heap.size + 3 ≤ w5.heap.size ∧ Below w3.heap.size w3 w5) := ⟨by have := HSZ.out; omega, hb4.trans (hb5.mono hb4.size)⟩
  clear hb4 hb5 hsz4 hsz5
  have hn3 := HSZ.out
  have hn5 := HD.out.2.size
  have HN3 := Lib.hid hn3
  clear hn3
  have hs5 : w.heap.size + 1 < w5.heap.size := by have := HD.out.1; omega
  go_wp2_with (at_make; refine wpList_make1 rfl _ _ rfl ((M.dig x).length + (M.dig y).length) rfl rfl (by omega) (by omega) HD.out.1 ?_; intro w6 hown6 hb6; have e0 := (hb6.cell (p := ⟨w.heap.size, 0, none⟩) (by simp)).trans c0; have e1 := (hb6.cell (p := ⟨w.heap.size + 1, 0, none⟩) (by simp)).trans c1)
  clear c0 c1
  generalize w5.heap.size = g at *
  replace HD : Hid (Below (w.heap.size + 3) w3 w6) := (HD.out.2.mono (by rw [HSZ.out]; exact Nat.le_refl _)).trans hb6
  clear hb6 e0 e1 hn5 hs5
  have hlx : (M.dig x).length ≤ 200 := hx
  go_loopw [32] (fun i wr => MulRel w w3 g x y i wr) (fun i _ => (M.dig x).length - (intOf i).toNat)
  case atStart => exact ⟨0, _, rfl, Nat.zero_le _, List.length_replicate, M.Lim.replicate _, fun m _ => M.el_replicate _ _, by simp [M.val_replicate, M.val], by simpa using hown6, HD.out⟩
  case round =>
    obtain ⟨k, zs, rfl, hk, hlen, hlim, hz, hval, hown, hbW⟩ := hrel
    clear hown6 HD
    obtain ⟨wo, hwo⟩ : ∃ wo : World, wo = wr := ⟨_, rfl⟩
    have c0 := (hbW.cell (p := ⟨w.heap.size, 0, none⟩) (by simp)).trans HC.out.1
    have c1 := (hbW.cell (p := ⟨w.heap.size + 1, 0, none⟩) (by simp)).trans HC.out.2.1
    have c2 := (hbW.cell (p := ⟨w.heap.size + 1 + 1, 0, none⟩) (by simp)).trans HC.out.2.2.1
    have f2 := (hbW.frozen (p := ⟨w.heap.size + 1 + 1, 0, none⟩) (by simp)).trans HC.out.2.2.2
    have HRA := Lib.hid (show Row wr a (M.dig x) ca from HA.out.below (hbW.mono (by rw [HSZ.out]; exact Nat.le_refl _)))
    subst hwo
    have HBW := Lib.hid hbW
    have HVAL := Lib.hid hval
    have HLN := Lib.hid hlen
    have HLIM := Lib.hid hlim
    have HZ := Lib.hid hz
    have HOWN := Lib.hid hown
    clear hval hlen hlim hown hz hbW
    by_cases hlt : k < (M.dig x).length
    · have hax := (M.lim_dig x).get k
      obtain ⟨b1, o1, rfl, hca⟩ := HRA.out.el k hlt
      go_wp2
      go_loopw [9, 40] (fun c i wr => MulIn w w3 g x y k c i wr) (fun _ i _ => (M.dig y).length - (intOf i).toNat)
      case atStart => exact ⟨0, zs, 0, rfl, rfl, Nat.zero_le _, HLN.out, HLIM.out, HZ.out, by omega, by omega, by rw [HVAL.out]; simp [M.val], HOWN.out, HBW.out⟩
      case round =>
        clear c0 c1 c2 f2 hca
        obtain ⟨j, zs, q, rfl, rfl, hj, hlen, hlim, hz, hq0, hq1, hval, hown, hbW⟩ := hrel
        have c1 := (hbW.cell (p := ⟨w.heap.size + 1, 0, none⟩) (by simp)).trans HC.out.2.1
        have HRB := Lib.hid (show Row wr b (M.dig y) cb from HB.out.below (hbW.mono (by rw [HSZ.out]; exact Nat.le_refl _)))
        clear HBW HVAL HLN HLIM HZ HOWN HRA
        have HBW := Lib.hid hbW
        have HVAL := Lib.hid hval
        have HLN := Lib.hid hlen
        have HLIM := Lib.hid hlim
        have HZ := Lib.hid hz
        have HOWN := Lib.hid hown
        clear hval hlen hlim hown hz hbW
        by_cases hlj : j < (M.dig y).length
        · have hby := (M.lim_dig y).get j
          have hmb := M.mul_bound hax hby
          have hez := HLIM.out.get (k + j)
          obtain ⟨b2, o2, rfl, hcb⟩ := HRB.out.el j hlj
          obtain ⟨hgB, hcz, hfz⟩ := HOWN.out.at (k + j) (by rw [HLN.out]; omega)
          go_wp2
          go_roundw
          case rel =>
            refine ⟨j + 1, zs.set (k + j) ((q + (M.el zs (k + j) + M.el (M.dig x) k * M.el (M.dig y) j)) % 16777216), _, by go_num, rfl, by omega, by rw [List.length_set]; exact HLN.out, HLIM.out.set _ (by omega) (by omega), fun m hm => ?_, by omega, by omega, ?_, by simp only [List.length_set]; exact HOWN.out.set _ _, HBW.out.setCell (p := ⟨g, k + j, none⟩) hgB _⟩
            · rw [M.el_set _ _ _ _ (by rw [HLN.out]; omega), if_neg (by omega)]; exact HZ.out m hm
            · rw [M.val_set _ _ _ (by rw [HLN.out]; omega), M.val_take_succ', ← Nat.add_assoc, Int.pow_succ]
              exact M.mul_step (Int.pow_add ..) HVAL.out
          case measure => simp [intOf]; omega
        · obtain ⟨hgB, hcz, hfz⟩ := HOWN.out.at (k + (M.dig y).length) (by rw [HLN.out]; omega)
          have hj' : j = (M.dig y).length := by omega
          have hv := HVAL.out
          rw [List.take_of_length_le (l := M.dig y) (by omega), M.val_dig, hj'] at hv
          have HV := Lib.hid hv
          clear hv hj'
          go_wp2
          go_roundw
          case rel =>
            refine ⟨k + 1, zs.set (k + (M.dig y).length) q, by go_num, by omega, by rw [List.length_set]; exact HLN.out, HLIM.out.set _ hq0 hq1, fun m hm => ?_, ?_, by simp only [List.length_set]; exact HOWN.out.set _ _, HBW.out.setCell (p := ⟨g, k + (M.dig y).length, none⟩) hgB _⟩
            · rw [M.el_set _ _ _ _ (by rw [HLN.out]; omega), if_neg (by omega)]; exact HZ.out m (by omega)
            · rw [M.val_set _ _ _ (by rw [HLN.out]; omega), HZ.out _ (Nat.le_refl _), M.val_take_succ']
              exact M.mul_row HV.out
          case measure => simp [intOf]; omega
    · have hk' : k = (M.dig x).length := by omega
      have hend : M.trimL zs = M.dig (x * y) := by
        refine M.mul_end HLIM.out ?_
        have hv := HVAL.out
        rwa [List.take_of_length_le (by omega), M.val_dig] at hv
      have hw := within_any _ zs _ wo HOWN.out.rowAt
      have ho := HOWN.out.trimmed
      rw [hend] at hw ho
      rw [HLN.out] at hw ho
      obtain ⟨a', c', hcut⟩ := cut_slice (some ⟨g, 0, none⟩) ((M.dig x).length + (M.dig y).length) (M.dig (x * y))
      rw [hcut] at hw ho
      clear hend hcut
      have HO := Lib.hid ho
      have HK := Lib.hid hk'
      clear ho hk'
      have hs2 : w.heap.size + 1 + 1 < wo.heap.size := by have := HSZ.out; have := HBW.out.size; omega
      by_cases h200 : (M.dig (x * y)).length ≤ 200
      · rw [if_pos h200] at hw
        have HW := Lib.hid hw
        clear hw
        go_wp2_with (go_at_call 47; refine HW.out.mono ?_; rintro e w7 ⟨rfl, hb7⟩; have d2 := (hb7.cell (p := ⟨w.heap.size + 1 + 1, 0, none⟩) hs2).trans c2; have g2 := (hb7.frozen (p := ⟨w.heap.size + 1 + 1, 0, none⟩) hs2).trans f2)
        refine bodyPost_ret (v := .tuple #[.agg #[.slice a' (M.dig (x * y)).length c'], .int .i64 0]) (by simp [results, Tryd.results24, go_sem, d2]) rfl ⟨natRes_ok h200 ?_, ?_⟩
        · exact ((HO.out.below hb7).setBelow (p := ⟨w.heap.size + 1 + 1, 0, none⟩) (by simp) _).num
        · exact ((HB3.out.trans (HBW.out.mono (by omega))).trans (hb7.mono (by have := HSZ.out; omega))).setCell (p := ⟨w.heap.size + 1 + 1, 0, none⟩) (by simp; omega) _
      · rw [if_neg h200] at hw
        have HW := Lib.hid hw
        clear hw
        go_wp2_with (go_at_call 47; refine HW.out.mono ?_; rintro e w7 ⟨rfl, hb7⟩; have d2 := (hb7.cell (p := ⟨w.heap.size + 1 + 1, 0, none⟩) hs2).trans c2; have g2 := (hb7.frozen (p := ⟨w.heap.size + 1 + 1, 0, none⟩) hs2).trans f2)
        refine bodyPost_ret (v := .tuple #[.agg #[.slice none 0 0], .int .i64 3]) (by simp [results, Tryd.results24, go_sem, d2]) rfl ⟨natRes_limit h200, ?_⟩
        exact ((HB3.out.trans (HBW.out.mono (by omega))).trans (hb7.mono (by have := HSZ.out; omega))).setCell (p := ⟨w.heap.size + 1 + 1, 0, none⟩) (by simp; omega) _

/-- **nat.Mul** of two numbers. -/
theorem mul_num {u v : Value} {x y : Nat} {w : World} (hx : (M.dig x).length ≤ 200) (hy : (M.dig y).length ≤ 200) (hu : Num w u x) (hv : Num w v y) :
    Calls Tryd.prog 24 #[u, v] w fun e W' => NatRes (x * y) e W' ∧ Below w.heap.size w W' := by
  obtain ⟨a, ca, rfl, ha⟩ := hu
  obtain ⟨b, cb, rfl, hb⟩ := hv
  exact mul_any a b ca cb x y w hx hy ha hb
end Go.Proofs.YtmejneobfkbgeaaDoor

namespace Go.Proofs.YtmejneobfkbgeaaDoor
open Go Go.RowKit Go.Shelf
attribute [local go_sem] Oper.semAt_some mask24

theorem ownFrom_grown {β : Type} {w₀ : World} {row₀ : Option Nat} {B : Nat} (hB : w₀.heap.size ≤ B) : OwnFrom B (fun (_ : β) W => w₀.grownBy W row₀) :=
  fun _ W W' row hs hg hr => ⟨hg.os.trans hs.os, hg.tape.trans hs.tape, hg.output.trans hs.output, Nat.le_trans hs.size hg.size, fun k hk hne => by
    refine (hg.block k (Nat.lt_of_lt_of_le hk hs.size) ?_).trans (hs.block k hk hne)
    intro e
    have := (hr k e.symm).1
    omega⟩

/-- What is owned from B on, while blocks that hold no cells turn beyond. -/
theorem ownFrom_own {β : Type} {B0 B : Nat} {v : Value} (f : β → List Int) : OwnFrom B0 (fun s W => Own W B v (f s)) := fun s W W' row hs hg hr =>
  World.ownsRow.kept hs hg (by
    cases hv : v.ownBlock with
    | none => exact .inl rfl
    | some k =>
      refine .inr ?_
      intro e
      obtain ⟨_, o, ho, hc⟩ := hr k e.symm
      obtain ⟨_, h2 | ⟨g, cap, cur, rfl, hb, hh, _⟩⟩ := hs
      · rw [h2.1] at hv; simp [Value.ownBlock] at hv
      · simp [Value.ownBlock] at hv
        subst hv
        rw [hh] at ho
        cases ho
        simp [Obj.isCells] at hc)

theorem grown_setCell {w W : World} {row : Option Nat} (h : w.grownBy W row) {a : Addr} (u : Value) (ha : w.heap.size ≤ a.block ∨ row = some a.block) : w.grownBy (W.setCell a u) row := by
  refine ⟨h.os, h.tape, h.output, by rw [show (W.setCell a u).heap.size = W.heap.size by simp [World.setCell]]; exact h.size, fun k hk hne => ?_⟩
  refine (Below.heap_setCell W a u k ?_).trans (h.block k hk hne)
  rintro rfl
  rcases ha with h | h
  · omega
  · exact hne h.symm
theorem grown_alloc {w W : World} {row : Option Nat} (h : w.grownBy W row) (o : Obj) : w.grownBy (W.alloc o) row :=
  ⟨h.os, h.tape, h.output, by rw [World.size_alloc]; exact Nat.le_succ_of_le h.size, fun k hk hne => (Below.heap_alloc W o k (Nat.lt_of_lt_of_le hk h.size)).trans (h.block k hk hne)⟩
theorem grown_drew {w W : World} {row : Option Nat} (h : w.grownBy W row) : w.grownBy W.drew row := ⟨h.os, h.tape, h.output, h.size, h.block⟩

/-- What holds in shrink's loop when k elements are still to come. -/
def ShrI (w : World) (B : Nat) (a : Option Addr) (cap : Nat) (zs : List Int) (d : Int) (k : Nat) (W : World) : Prop :=
  (W.cell? ⟨w.heap.size, 0, none⟩ = some (.slice a zs.length cap) ∧ W.cell? ⟨w.heap.size + 1, 0, none⟩ = some (.int .i64 d) ∧ W.cell? ⟨w.heap.size + 1 + 1, 0, none⟩ = some (.int .i64 (M.shr d (zs.drop k)).1) ∧ W.frozen? ⟨w.heap.size + 1 + 1, 0, none⟩ = false ∧
    W.cell? ⟨w.heap.size + 1 + 1 + 1, 0, none⟩ = some (.slice a zs.length cap)) ∧ Own W B (.slice a zs.length cap) (M.shrAt d zs k) ∧ w.grownBy W (Value.slice a zs.length cap).ownBlock

theorem shrI_own {w : World} {B B0 : Nat} {a : Option Addr} {cap : Nat} {zs : List Int} {d : Int} (hB0 : w.heap.size ≤ B0) : OwnFrom B0 (ShrI w B a cap zs d) :=
  OwnFrom.and (Own.from (fun _ _ _ _ hs hg hr => ⟨cell_kept hs.1 hg hr, cell_kept hs.2.1 hg hr, cell_kept hs.2.2.1 hg hr, (frozen_kept hs.2.2.1 hg hr).trans hs.2.2.2.1, cell_kept hs.2.2.2.2 hg hr⟩) _)
    (OwnFrom.and (ownFrom_own _) (ownFrom_grown hB0))

theorem cell_other {W : World} {p a : Addr} (u : Value) (h : a.block ≠ p.block) : (W.setCell p u).cell? a = W.cell? a :=
  World.cell?_of_block (Below.heap_setCell W p u a.block h)

theorem shr_step {w W : World} {B B0 g cap : Nat} {zs : List Int} {d r x : Int} {k : Nat} (hgw : g < w.heap.size) (hc0 : W.cell? ⟨w.heap.size, 0, none⟩ = some (.slice (some ⟨g, 0, none⟩) zs.length cap))
    (hc1 : W.cell? ⟨w.heap.size + 1, 0, none⟩ = some (.int .i64 d)) (hc2 : W.cell? ⟨w.heap.size + 1 + 1, 0, none⟩ = some (.int .i64 r)) (hf2 : W.frozen? ⟨w.heap.size + 1 + 1, 0, none⟩ = false)
    (hc3 : W.cell? ⟨w.heap.size + 1 + 1 + 1, 0, none⟩ = some (.slice (some ⟨g, 0, none⟩) zs.length cap)) (HO : Own W B (.slice (some ⟨g, 0, none⟩) zs.length cap) (M.shrAt d zs (k + 1))) (HG : w.grownBy W (Value.slice (some ⟨g, 0, none⟩) zs.length cap).ownBlock)
    (HS : (M.shrAt d zs (k + 1)).set k (x / d) = M.shrAt d zs k) (HR : (M.shr d (zs.drop k)).1 = x % d) :
    KeepsFrom B0 W (((W.setCell ⟨w.heap.size + 1 + 1, 0, none⟩ (.int .i64 x)).setCell ⟨g, k, none⟩ (.int .i64 (x / d))).setCell ⟨w.heap.size + 1 + 1, 0, none⟩ (.int .i64 (x % d))).drew ∧
    ShrI w B (some ⟨g, 0, none⟩) cap zs d k (((W.setCell ⟨w.heap.size + 1 + 1, 0, none⟩ (.int .i64 x)).setCell ⟨g, k, none⟩ (.int .i64 (x / d))).setCell ⟨w.heap.size + 1 + 1, 0, none⟩ (.int .i64 (x % d))).drew := by
  have e2 : (((W.setCell ⟨w.heap.size + 1 + 1, 0, none⟩ (.int .i64 x)).setCell ⟨g, k, none⟩ (.int .i64 (x / d))).cell? ⟨w.heap.size + 1 + 1, 0, none⟩).isSome = true := by
    rw [cell_other _ (by simp; omega), World.cell?_setCell_same' _ _ _ (by rw [hc2]; rfl)]; rfl
  refine ⟨(((KeepsOthers.setCell _ _ _).trans (KeepsOthers.setCell _ _ _)).trans ((KeepsOthers.setCell _ _ _).trans (KeepsOthers.drew _))).from _, ⟨?_, ?_, ?_, ?_, ?_⟩, ?_, ?_⟩
  · exact (cell_other _ (by simp; omega)).trans ((cell_other _ (by simp; omega)).trans ((cell_other _ (by simp; omega)).trans hc0))
  · exact (cell_other _ (by simp)).trans ((cell_other _ (by simp; omega)).trans ((cell_other _ (by simp)).trans hc1))
  · rw [HR]; exact World.cell?_setCell_same' _ _ _ e2
  · show World.frozen? (World.setCell _ _ _) _ = false
    rw [World.frozen?_setCell, World.frozen?_setCell, World.frozen?_setCell]; exact hf2
  · exact (cell_other _ (by simp)).trans ((cell_other _ (by simp; omega)).trans ((cell_other _ (by simp)).trans hc3))
  · have hl := M.shrAt_len d zs (k + 1)
    have h1 := HO.other (p := ⟨w.heap.size + 1 + 1, 0, none⟩) (.int .i64 x) (by simp [Value.ownBlock]; omega)
    rw [← hl] at h1
    have h2 := (h1.set k (x / d)).other (p := ⟨w.heap.size + 1 + 1, 0, none⟩) (.int .i64 (x % d)) (by simp [Value.ownBlock]; omega)
    rw [HS, hl] at h2
    exact h2
  · have g1 := grown_setCell HG (a := ⟨w.heap.size + 1 + 1, 0, none⟩) (.int .i64 x) (.inl (by show w.heap.size ≤ w.heap.size + 1 + 1; omega))
    have g2 := grown_setCell g1 (a := ⟨g, k, none⟩) (.int .i64 (x / d)) (.inr rfl)
    exact grown_drew (grown_setCell g2 (a := ⟨w.heap.size + 1 + 1, 0, none⟩) (.int .i64 (x % d)) (.inl (by show w.heap.size ≤ w.heap.size + 1 + 1; omega)))

end Go.Proofs.YtmejneobfkbgeaaDoor

namespace Go.Proofs.YtmejneobfkbgeaaDoor
open Go Go.RowKit Go.Shelf
attribute [local go_sem] Oper.semAt_some mask24

set_option maxRecDepth 100000 in
set_option maxHeartbeats 2000000 in
theorem shrink_any (B : Nat) (a : Option Addr) (cap : Nat) (zs : List Int) (d : Nat) (w : World) (hd : 0 < d) (hd2 : d < 549755813888) (hlim : M.Lim zs) (hown : Own w B (.slice a zs.length cap) zs) :
    Calls Tryd.prog 42 #[.slice a zs.length cap, .int .i64 (d : Int)] w fun e W' => e = .returned (.int .i64 (M.shr d zs).1) ∧ Own W' B (.slice a zs.length cap) (M.shr d zs).2 ∧ w.grownBy W' (Value.slice a zs.length cap).ownBlock := by
  refine (callsIn_wide (n := 6)).1 ?_
  refine callsIn_of_wp_marks Tryd.func42 rfl trivial ?_ rfl
  simp only [Tryd.ntmps42, List.size_toArray, List.length_cons, List.length_nil, Nat.reduceAdd, Nat.reduceSub, Array.replicate_succ, Array.replicate_zero, List.push_toArray, List.append_toArray, List.nil_append, List.cons_append]
  gi_wp2_with (refine ⟨trivial, ?_⟩; gi_at_call 63; refine (callsIn_wide.2 (backward_any _ _ _ _)).mono ?_; rintro e w' ⟨rfl, rfl⟩)
  have c0 := cell_new w (.slice a zs.length cap) 22
  have c1 := cell_new (w.alloc (.cells #[.slice a zs.length cap] 22)) (.int .i64 (d : Int)) 3
  have c2 := cell_new ((w.alloc (.cells #[.slice a zs.length cap] 22)).alloc (.cells #[.int .i64 (d : Int)] 3)) (.int .i64 0) 3
  have f2 := frozen_new ((w.alloc (.cells #[.slice a zs.length cap] 22)).alloc (.cells #[.int .i64 (d : Int)] 3)) (.int .i64 0) 3
  have c3 := cell_new (((w.alloc (.cells #[.slice a zs.length cap] 22)).alloc (.cells #[.int .i64 (d : Int)] 3)).alloc (.cells #[.int .i64 0] 3)) (.slice a zs.length cap) 22
  simp only [World.size_alloc] at c1 c2 f2 c3
  have hrow := hown.rowAt
  have hm : zs.length ≤ 9223372036854775807 := by have := hrow.room; have := hrow.most; omega
  have hgr := grown_alloc (grown_alloc (grown_alloc (grown_alloc (World.grownBy.refl w (Value.slice a zs.length cap).ownBlock) (.cells #[.slice a zs.length cap] 22)) (.cells #[.int .i64 (d : Int)] 3)) (.cells #[.int .i64 0] 3)) (.cells #[.slice a zs.length cap] 22)
  have ho4 := (((hown.alloc (.cells #[.slice a zs.length cap] 22)).alloc (.cells #[.int .i64 (d : Int)] 3)).alloc (.cells #[.int .i64 0] 3)).alloc (.cells #[.slice a zs.length cap] 22)
  refine wpIn_back (n := 6) (by omega) (Bs := w.heap.size + 1 + 1 + 1) rfl rfl a zs.length cap hm (fun j => M.el zs j) (ShrI w B a cap zs d) (fun _ _ _ => False) (shrI_own (by simp; omega)) (fun _ _ _ _ _ hs _ _ => hs)
    ⟨⟨cell_later _ (cell_later _ (cell_later _ c0)), cell_later _ (cell_later _ c1), by rw [List.drop_length]; exact cell_later _ c2, frozen_later _ c2 f2, c3⟩, by rw [M.shrAt_all]; exact ho4, hgr⟩
    (fun k W h => h.1.2.2.2.2)
    (fun k W h hk => by
      obtain ⟨g, rfl, _, _, _, _, hc, _⟩ := h.2.1.at2 k (by rw [M.shrAt_len]; exact hk)
      rw [M.shrAt_el _ _ _ _ (Nat.lt_succ_self k) hk] at hc
      exact ⟨g, 0, rfl, by simpa using hc⟩)
    (fun k => { tmps := #[.slice a zs.length cap, .int .i64 (d : Int), .pointer (some ⟨w.heap.size, 0, none⟩), .pointer (some ⟨w.heap.size + 1, 0, none⟩), .int .i64 0, .pointer (some ⟨w.heap.size + 1 + 1, 0, none⟩), .int .i64 (k : Int), .int .i64 (M.el zs k), .slice a zs.length cap,
      .func (.func 74) #[] #[.pointer (some ⟨w.heap.size + 1 + 1 + 1, 0, none⟩)], .int .i64 (k : Int), .int .i64 (M.el zs k), undef, undef, undef, undef, undef, undef, undef, undef, undef, undef, undef, undef, undef, undef], defers := [] }) ?assign ?body ?done ?stop
  case assign =>
    intro l k W K hk hK
    gi_wp2
    exact hK
  case body =>
    clear c0 c1 c2 f2 c3 hgr ho4 hrow
    rintro l k W hl hrec ⟨⟨hc0, hc1, hc2, hf2, hc3⟩, hO, hG⟩ hk
    clear hl hrec
    obtain ⟨g, rfl, hgB, hgW, hroom, hmost, hcz, hfz⟩ := hO.at2 k (by rw [M.shrAt_len]; exact hk)
    obtain ⟨g', e', _, hgw, _, _, _, _⟩ := hown.at2 k hk
    cases e'
    have HO := Lib.hid hO
    have HG := Lib.hid hG
    have HW := Lib.hid hgW
    clear hO hG hgW hown
    have hr := M.shr_rest (d : Int) (by omega) (zs.drop (k + 1))
    have hel := hlim.get k
    have HS := Lib.hid (M.shrAt_set (d : Int) zs k hk)
    have HR := Lib.hid (M.shr_drop (d : Int) zs k hk)
    generalize (M.shr (d : Int) (zs.drop (k + 1))).1 = r at *
    have hor := or24 r (M.el zs k) hr.1 (by omega) hel.1 hel.2
    have hmx : Tryd.prog.follows .mixedOrders = true := by kernel_rfl
    have hd0 : ((d : Int) == 0) = false := by simp; omega
    have hd1 : (1 : Int) ≤ d := by omega
    gi_wp2
    gi_region_with_o (fail)
    all_goals gi_wp2
    all_goals exact shr_step (B0 := _) hgw hc0 hc1 hc2 hf2 hc3 HO.out HG.out HS.out HR.out
  case done =>
    rintro D W hD ⟨⟨_, _, hc2, hf2, _⟩, hO, hG⟩ hK
    rw [List.drop_zero] at hc2
    rw [M.shrAt_zero] at hO
    have HO := Lib.hid hO
    have HG := Lib.hid hG
    clear hO hG c0 c1 c2 f2 c3 hgr ho4 hrow
    gi_wp2
    refine ⟨by simp, .inl ⟨_, _, rfl, run_takeDeferred hK, ?_⟩⟩
    refine ⟨_, results_tmp rfl _ _ _, rfl, ?_, ?_⟩
    · exact ownFrom_own (B0 := 0) (fun (_ : Unit) => (M.shr (d : Int) zs).2) () _ _ _ HO.out (grownBy_putObj' _ D (.deferred none)) (fun r e => by cases e; exact ⟨Nat.zero_le _, _, hK, rfl⟩)
    · exact ownFrom_grown (Nat.le_refl _) () _ _ _ HG.out (grownBy_putObj' _ D (.deferred none)) (fun r e => by cases e; exact ⟨by simp at hD; omega, _, hK, rfl⟩)
  case stop =>
    rintro D c k W _ _ h _
    exact h.elim
end Go.Proofs.YtmejneobfkbgeaaDoor

namespace Go.Proofs.YtmejneobfkbgeaaDoor
open Go Go.RowKit Go.Shelf
attribute [local go_sem] mask24

def SclRel (w : World) (B : Nat) (a : Option Addr) (cap : Nat) (zs : List Int) (f c0 : Nat) (c i : Value) (wr : World) : Prop :=
  ∃ (k : Nat) (ys : List Int) (q : Int), i = .int .i64 (k : Int) ∧ c = .int .i64 q ∧ k ≤ zs.length ∧ ys.length = zs.length ∧ M.Lim ys ∧ 0 ≤ q ∧ q < 16777216 ∧ ys.drop k = zs.drop k ∧
    M.val (ys.take k) + 16777216 ^ k * q = M.val (zs.take k) * f + c0 ∧ Own wr B (.slice a zs.length cap) ys ∧ Below B w wr

/-- What scale leaves: the limbs of the number times f and c0, in memory of the call's own from B on. -/
def SclPost (w : World) (B : Nat) (zs : List Int) (f c0 : Nat) (e : Ending) (W : World) : Prop :=
  ∃ a' cap' ys, e = .returned (.slice a' ys.length cap') ∧ Own W B (.slice a' ys.length cap') ys ∧ Below B w W ∧ M.Lim ys ∧ ys.length ≤ zs.length + 1 ∧ M.val ys = M.val zs * f + c0

set_option maxRecDepth 100000 in
set_option maxHeartbeats 1000000 in
/-- **nat.scale** -/
theorem scale_any (B : Nat) (a : Option Addr) (cap : Nat) (zs : List Int) (f c0 : Nat) (w : World) (hB : B ≤ w.heap.size) (hf : f < 16777216) (hc0 : c0 < 16777216) (hlim : M.Lim zs) (hlen : zs.length < 100000) (hown : Own w B (.slice a zs.length cap) zs) :
    Calls Tryd.prog 79 #[.slice a zs.length cap, .int .i64 (f : Int), .int .i64 (c0 : Int)] w (SclPost w B zs f c0) := by
  have HL := Lib.hid hlim
  have hm := hown.rowAt.room
  have hm2 := hown.rowAt.most
  have HO0 := Lib.hid hown
  clear hlim hown
  go_enter Tryd.func79, Tryd.ntmps79
  go_wp2
  go_loopw [7, 13] (fun c i wr => SclRel w B a cap zs f c0 c i wr) (fun _ i _ => zs.length - (intOf i).toNat)
  case atStart => exact ⟨0, zs, c0, rfl, rfl, Nat.zero_le _, rfl, HL.out, by omega, by omega, rfl, by simp [M.val], HO0.out, Below.refl _ _⟩
  case round =>
    obtain ⟨k, ys, q, rfl, rfl, hk, hlen2, hlim, hq0, hq1, hdrop, hval, hown, hbW⟩ := hrel
    have HLN := Lib.hid hlen2
    have HD := Lib.hid hdrop
    have HV := Lib.hid hval
    have HLIM := Lib.hid hlim
    have HO := Lib.hid hown
    have HB := Lib.hid hbW
    clear hlen2 hdrop hval hlim hown hbW
    have hbs := HB.out.size
    by_cases hlt : k < zs.length
    · obtain ⟨g, rfl, hgB, hgW, h3, h4, hcz, hfz⟩ := HO.out.at2 k (by rw [HLN.out]; exact hlt)
      have hel := HL.out.get k
      have hez : M.el ys k = M.el zs k := by
        have := congrArg (fun l => M.el l 0) HD.out
        simpa only [M.el_drop, Nat.add_zero] using this
      rw [hez] at hcz
      have HEZ := Lib.hid hez
      clear hez
      have hmb := M.mul_bound hel (b := (f : Int)) (by omega)
      go_wp2
      go_roundw
      case rel =>
        have hkl : k < ys.length := by rw [HLN.out]; exact hlt
        refine ⟨k + 1, ys.set k ((q + M.el zs k * (f : Int)) % 16777216), (q + M.el zs k * (f : Int)) / 16777216, by go_num, rfl, by omega, by rw [List.length_set]; exact HLN.out, HLIM.out.set _ (by omega) (by omega), by omega, by omega, ?_, ?_, ?_, HB.out.setCell (p := ⟨g, k, none⟩) hgB _⟩
        · rw [List.drop_set_of_lt (by omega)]
          have := congrArg (List.drop 1) HD.out
          rwa [List.drop_drop, List.drop_drop] at this
        · rw [M.val_set_succ _ _ _ hkl, M.val_take_succ', Int.pow_succ]
          have h1 := M.pow_split (16777216 ^ k) (q + M.el zs k * (f : Int))
          have h2 := HV.out
          rw [Int.mul_add, ← Int.mul_assoc] at h1
          rw [Int.add_mul]
          omega
        · have := HO.out
          rw [← HLN.out] at this ⊢
          exact this.set k _
      case measure => simp [intOf]; omega
    · have hk' : k = zs.length := by omega
      have hv := HV.out
      rw [List.take_of_length_le (by rw [HLN.out]; omega), List.take_of_length_le (by omega), hk'] at hv
      have HV2 := Lib.hid hv
      have HK := Lib.hid hk'
      clear hv hk'
      by_cases hq : 0 < q
      · go_wp2_with (at_builtin; refine wpList_app1 rfl _ _ rfl rfl (HO.out.alloc _) rfl (cell_new _ _ _) (by rw [HLN.out]; omega) (by simp; omega) ?_; intro a' cap' W' hown' hb')
        go_ret
        refine ⟨a', cap', ys ++ [q], by rw [List.length_append, HLN.out]; rfl, hown', HB.out.trans (((Below.refl B wr).alloc (by omega) _).trans hb'), HLIM.out.append (M.Lim.cons hq0 hq1 M.Lim.nil), by simp [HLN.out], ?_⟩
        rw [M.val_append, HLN.out]
        simpa [M.val] using HV2.out
      · have hq2 : q = 0 := by omega
        have hv := HV2.out
        rw [hq2] at hv
        have HV3 := Lib.hid hv
        clear hv hq2
        go_wp2
        go_ret
        exact ⟨a, cap, ys, by rw [HLN.out]; rfl, by rw [HLN.out]; exact HO.out, HB.out, HLIM.out, by rw [HLN.out]; omega, by simpa using HV3.out⟩
end Go.Proofs.YtmejneobfkbgeaaDoor

namespace Go.Proofs.YtmejneobfkbgeaaDoor
namespace M
/-- The number of sets of k out of n things. -/
def ch : Nat → Nat → Nat
  | _, 0 => 1
  | 0, _ + 1 => 0
  | n + 1, k + 1 => ch n k + ch n (k + 1)

theorem ch_zero (n : Nat) : ch n 0 = 1 := by cases n <;> rfl
theorem ch_succ (n k : Nat) : ch (n + 1) (k + 1) = ch n k + ch n (k + 1) := rfl
theorem ch_zero_succ (k : Nat) : ch 0 (k + 1) = 0 := rfl
theorem ch_gt : ∀ (n k : Nat), n < k → ch n k = 0
  | n, 0, h => by omega
  | 0, k + 1, _ => rfl
  | n + 1, k + 1, h => by rw [ch_succ, ch_gt n k (by omega), ch_gt n (k + 1) (by omega)]
theorem ch_self : ∀ n : Nat, ch n n = 1
  | 0 => rfl
  | n + 1 => by rw [ch_succ, ch_self n, ch_gt n (n + 1) (by omega)]
theorem ch_step (n : Nat) : ∀ k, (k + 1) * ch (n + 1) (k + 1) = (n + 1) * ch n k := by
  induction n with
  | zero =>
    intro k
    cases k with
    | zero => rfl
    | succ k => rw [ch_succ, ch_zero_succ, ch_zero_succ]; simp
  | succ n ih =>
    intro k
    cases k with
    | zero =>
      have := ih 0
      simp only [ch_zero, ch_succ] at *
      omega
    | succ k =>
      have h1 := ih k
      have h2 := ih (k + 1)
      rw [ch_succ (n + 1) (k + 1), Nat.mul_add, h2]
      rw [show (k + 1 + 1) * ch (n + 1) (k + 1) = (k + 1) * ch (n + 1) (k + 1) + ch (n + 1) (k + 1) from by rw [Nat.add_mul]; simp, h1]
      rw [show (n + 1 + 1) * ch (n + 1) (k + 1) = (n + 1) * ch (n + 1) (k + 1) + ch (n + 1) (k + 1) from by rw [Nat.add_mul]; simp]
      rw [ch_succ n k, Nat.mul_add]; omega
/-- The next number out of this one. -/
theorem ch_next (n k : Nat) (h : k < n) : (n - k) * ch n k = (k + 1) * ch n (k + 1) := by
  obtain ⟨n, rfl⟩ : ∃ m, n = m + 1 := ⟨n - 1, by omega⟩
  rw [ch_step]
  cases k with
  | zero => simp [ch_zero]
  | succ k =>
    have h1 := ch_step n k
    have h2 := ch_step n (k + 1)
    have h3 := ch_succ n (k + 1)
    have h4 := ch_succ n k
    have e : (n + 1 - (k + 1)) * ch (n + 1) (k + 1) + (k + 1) * ch (n + 1) (k + 1) = (n + 1) * ch (n + 1) (k + 1) := by rw [← Nat.add_mul]; congr 1; omega
    rw [h1] at e
    rw [h4, Nat.mul_add (n + 1)] at e
    rw [h4]
    omega
theorem ch_sym (n : Nat) : ∀ k, k ≤ n → ch n (n - k) = ch n k := by
  induction n with
  | zero => intro k h; rw [show k = 0 by omega]
  | succ n ih =>
    intro k h
    cases k with
    | zero => rw [Nat.sub_zero, ch_self, ch_zero]
    | succ k =>
      by_cases e : k = n
      · subst e; rw [Nat.sub_self, ch_zero, ch_self]
      · rw [show n + 1 - (k + 1) = (n - (k + 1)) + 1 from by omega, ch_succ, ch_succ, ih (k + 1) (by omega), show n - (k + 1) + 1 = n - k from by omega, ih k (by omega)]; omega
theorem ch_le (n : Nat) : ∀ k, ch n k ≤ 2 ^ n := by
  induction n with
  | zero => intro k; cases k <;> simp [ch]
  | succ n ih =>
    intro k
    cases k with
    | zero => rw [ch_zero]; exact Nat.pos_of_ne_zero (by simp)
    | succ k => have := ih k; have := ih (k + 1); rw [ch_succ, Nat.pow_succ]; omega
/-- The sum of the numbers of sets of fewer than k things. -/
def chSum (n : Nat) : Nat → Nat
  | 0 => 0
  | k + 1 => chSum n k + ch n k
theorem chSum_succ (n k : Nat) : chSum (n + 1) (k + 1) = chSum n k + chSum n (k + 1) := by
  induction k with
  | zero => simp [chSum, ch_zero]
  | succ k ih => rw [chSum, ih, ch_succ]; simp only [chSum]; omega
theorem chSum_gt (n k : Nat) : chSum n (n + 1 + k) = chSum n (n + 1) := by
  induction k with
  | zero => rfl
  | succ k ih => rw [← Nat.add_assoc, chSum, ih, ch_gt n _ (by omega)]; omega
theorem chSum_all (n : Nat) : chSum n (n + 1) = 2 ^ n := by
  induction n with
  | zero => rfl
  | succ n ih => rw [chSum_succ, ih, chSum_gt n 1, ih, Nat.pow_succ]; omega
theorem chSum_le (n k : Nat) (h : k ≤ n + 1) : chSum n k ≤ 2 ^ n := by
  rw [← chSum_all]
  obtain ⟨d, hd⟩ : ∃ d, n + 1 = k + d := ⟨n + 1 - k, by omega⟩
  rw [hd]; clear hd h
  induction d with
  | zero => exact Nat.le_refl _
  | succ d ih => rw [← Nat.add_assoc, chSum]; omega
end M
end Go.Proofs.YtmejneobfkbgeaaDoor

namespace Go.Proofs.YtmejneobfkbgeaaDoor
open Go Go.RowKit Go.Shelf

/-- What holds in Choose's loop: the sets of i out of n things. -/
def ChRel (w : World) (n m : Nat) (s i : Value) (W : World) : Prop :=
  ∃ (k : Nat) (a : Option Addr) (cap : Nat), i = .int .i64 (k : Int) ∧ k ≤ m ∧ s = .slice a (M.dig (M.ch n k)).length cap ∧ Own W (w.heap.size + 1) (.slice a (M.dig (M.ch n k)).length cap) (M.dig (M.ch n k)) ∧
    W.cell? ⟨w.heap.size, 0, none⟩ = some (.slice none 0 0) ∧ W.frozen? ⟨w.heap.size, 0, none⟩ = false ∧ Below w.heap.size w W

theorem own_one (w : World) (B : Nat) (h : B ≤ w.heap.size) : Own (w.alloc (.cells #[.int .i64 1] 3)) B (.slice (some ⟨w.heap.size, 0, none⟩) 1 1) [1] := by
  have := World.ownsRow_made (base := B) (e := 3) (size := 1) w #[.int .i64 1] 1 h (by unfold maxLen; omega) rfl
  obtain ⟨h1, h2 | ⟨g, cap, cur, e, hb, hh, r⟩⟩ := this
  · cases h2.1
  · cases e
    refine ⟨rfl, .inr ⟨_, 1, cur, rfl, hb, hh, Nat.le_refl _, r.2.1, r.2.2.1, ?_⟩⟩
    have hh' := World.alloc_heap_new w (.cells #[.int .i64 1] 3)
    rw [hh'] at hh
    cases hh
    rfl
theorem dig_one : M.dig 1 = [1] := by rw [M.dig_pos (by omega), show 1 / 16777216 = 0 from rfl, M.dig_zero]; rfl

theorem pow24 (k : Nat) : 16777216 ^ k = 2 ^ (24 * k) := by rw [show (16777216 : Nat) = 2 ^ 24 from rfl, ← Nat.pow_mul]
theorem len_pow {n e k : Nat} (h : n < 2 ^ e) (he : e ≤ 24 * k) : (M.dig n).length ≤ k :=
  M.dig_len_le.2 (by rw [pow24]; exact Nat.lt_of_lt_of_le h (Nat.pow_le_pow_right (Nat.succ_pos 1) he))
theorem ch_dig_len {n : Nat} (hn : n ≤ 4096) (k : Nat) : (M.dig (M.ch n k)).length ≤ 175 :=
  len_pow (e := n + 1) (Nat.lt_of_le_of_lt (M.ch_le n k) (Nat.pow_lt_pow_right (Nat.lt_succ_self 1) (Nat.lt_succ_self n))) (by omega)

theorem Own.num' {W : World} {B : Nat} {v : Value} {n : Nat} {zs : List Int} (h : Own W B v zs) (e : M.dig n = zs) : Num W (.agg #[v]) n := by
  subst e; exact h.num

/-- One round of Choose, in numbers. -/
theorem ch_round {n k : Nat} (h : k < n) {ys : List Int} (hl : M.Lim ys) (hv : M.val ys = M.val (M.dig (M.ch n k)) * ((n - k : Nat) : Int) + ((0 : Nat) : Int)) : M.trimL (M.shr ((k + 1 : Nat) : Int) ys).2 = M.dig (M.ch n (k + 1)) := by
  have e : M.val ys = ((M.ch n k * (n - k) : Nat) : Int) := by rw [hv, M.val_dig, Int.natCast_mul]; simp
  rw [(M.shr_nat (by omega) hl e).1, Nat.mul_comm, M.ch_next n k h, Nat.mul_comm, Nat.mul_div_cancel _ (by omega)]

set_option maxRecDepth 100000 in
set_option maxHeartbeats 2000000 in
theorem choose_hi (n k0 : Nat) (w : World) (hn : n ≤ 4096) (hk0 : k0 ≤ n) (hle : n - k0 < k0) :
    Calls Tryd.prog 70 #[.int .i64 (n : Int), .int .i64 (k0 : Int)] w fun e W' => ∃ v, e = .returned (.tuple #[v, .int .i64 0]) ∧ Num W' v (M.ch n k0) ∧ Below w.heap.size w W' := by
  have HM := Lib.hid (show M.ch n (n - k0) = M.ch n k0 from M.ch_sym n k0 hk0)
  have HC := Lib.hid (cell_of_new w (.slice none 0 0) 24)
  have ho := own_one (w.alloc (.cells #[.slice none 0 0] 24)) (w.heap.size + 1) (by simp)
  rw [World.size_alloc] at ho
  have HO1 := Lib.hid ho
  clear ho
  have d1 : decide ((n : Int) < 0) = false := by simp
  have d2 : decide ((4096 : Int) < (n : Int)) = false := by simp; omega
  have d3 : decide ((k0 : Int) < 0) = false := by simp
  have d4 : decide (n < k0) = false := by simp; omega
  go_enter Tryd.func70, Tryd.ntmps70
  go_wp2_with fail
  go_loopw [6, 29] (fun s i wr => ChRel w n (n - k0) s i wr) (fun _ i _ => (n - k0) - (intOf i).toNat)
  case atStart => exact ⟨0, _, 1, rfl, Nat.zero_le _, by rw [M.ch_zero, dig_one]; rfl, by rw [M.ch_zero, dig_one]; exact HO1.out, cell_later _ HC.out.1, frozen_later _ HC.out.1 HC.out.2, ((Below.refl _ w).alloc (Nat.le_refl _) _).alloc (by simp) _⟩
  case round =>
    clear HO1 HC
    obtain ⟨k, a, cap, rfl, hk, rfl, hown, hc0, hf0, hbW⟩ := hrel
    have hsW := hbW.size
    have hw1 : w.heap.size + 1 ≤ wr.heap.size := by have := lt_of_cell hc0; simp at this; omega
    have HB := Lib.hid hbW
    clear hbW
    by_cases hlt : k < n - k0
    · have hlen := ch_dig_len hn k
      have hs := scale_any (w.heap.size + 1) a cap (M.dig (M.ch n k)) (n - k) 0 wr hw1 (by omega) (by omega) (M.lim_dig _) (by omega) hown
      rw [show ((n - k : Nat) : Int) = (n : Int) - (k : Int) from by omega] at hs
      have HS := Lib.hid hs
      clear hs hown
      go_wp2_with fail
      refine HS.out.mono ?_
      rintro e w1 ⟨a1, cap1, ys, rfl, ho1, hb1, hlim1, hl1, hv1⟩
      have HR := Lib.hid (ch_round (by omega) hlim1 hv1)
      clear hv1 HS
      have hc1 := (hb1.cell (p := ⟨w.heap.size, 0, none⟩) (by simp)).trans hc0
      have hf1 := (hb1.frozen (p := ⟨w.heap.size, 0, none⟩) (by simp)).trans hf0
      have hsh := shrink_any (w.heap.size + 1) a1 cap1 ys (k + 1) w1 (by omega) (by omega) hlim1 ho1
      have hw2 : w.heap.size + 1 ≤ w1.heap.size := Nat.le_trans hw1 hb1.size
      have HO1 := Lib.hid ho1
      have HB1 := Lib.hid hb1
      have HSH := Lib.hid hsh
      clear ho1 hb1 hsh hc0 hf0
      go_wp2_with fail
      refine HSH.out.mono ?_
      rintro e w2 ⟨rfl, ho2, hg2⟩
      have hb2 := below_of_grown HO1.out hg2 hw2
      have hc2 := (hb2.cell (p := ⟨w.heap.size, 0, none⟩) (by simp)).trans hc1
      have hf2 := (hb2.frozen (p := ⟨w.heap.size, 0, none⟩) (by simp)).trans hf1
      rw [← M.shr_len ((k + 1 : Nat) : Int) ys] at ho2
      have htr := trim_any a1 (M.shr ((k + 1 : Nat) : Int) ys).2 cap1 w2 ho2.rowAt
      have hot := ho2.trimmed
      rw [HR.out] at htr hot
      rw [M.shr_len] at htr
      obtain ⟨a3, cap3, hcut⟩ := cut_slice a1 cap1 (M.dig (M.ch n (k + 1)))
      rw [hcut] at htr hot
      have hw3 : w.heap.size + 1 ≤ w2.heap.size := Nat.le_trans hw2 hb2.size
      have HT := Lib.hid htr
      have HOT := Lib.hid hot
      have HB2 := Lib.hid hb2
      clear htr hot hb2 hg2 ho2 hcut HSH HO1 hc1 hf1
      go_wp2_with fail
      refine HT.out.mono ?_
      rintro e w3 ⟨rfl, hb3⟩
      have HB3 := Lib.hid hb3
      have hc3 := (hb3.cell (p := ⟨w.heap.size, 0, none⟩) hw3).trans hc2
      have hf3 := (hb3.frozen (p := ⟨w.heap.size, 0, none⟩) hw3).trans hf2
      clear hb3
      go_wp2_with fail
      go_roundw
      case rel => exact ⟨k + 1, a3, cap3, by go_num, by omega, rfl, HOT.out.below HB3.out, hc3, hf3, ((HB.out.trans (HB1.out.mono (by omega))).trans (HB2.out.mono (by omega))).trans (HB3.out.mono (by omega))⟩
      case measure => simp [intOf]; omega
    · have hkm : k = n - k0 := by omega
      have hnum : Own wr (w.heap.size + 1) (.slice a (M.dig (M.ch n k)).length cap) (M.dig (M.ch n k0)) := by
        have e : M.ch n k0 = M.ch n k := by first | (rw [hkm]; done) | (rw [hkm]; exact HM.out.symm)
        rw [e]; exact hown
      have HN := Lib.hid hnum
      clear hnum hown hkm
      go_wp2
      exact bodyPost_ret (v := .tuple #[.agg #[.slice a (M.dig (M.ch n k)).length cap], .int .i64 0]) (by simp [results, Tryd.results70, go_sem, hc0]) rfl ⟨.agg #[.slice a (M.dig (M.ch n k)).length cap], rfl, (HN.out.setBelow (p := ⟨w.heap.size, 0, none⟩) (by simp) _).num, HB.out.setCell (p := ⟨w.heap.size, 0, none⟩) (Nat.le_refl _) _⟩

set_option maxRecDepth 100000 in
set_option maxHeartbeats 2000000 in
theorem choose_lo (n k0 : Nat) (w : World) (hn : n ≤ 4096) (hk0 : k0 ≤ n) (hle : k0 ≤ n - k0) :
    Calls Tryd.prog 70 #[.int .i64 (n : Int), .int .i64 (k0 : Int)] w fun e W' => ∃ v, e = .returned (.tuple #[v, .int .i64 0]) ∧ Num W' v (M.ch n k0) ∧ Below w.heap.size w W' := by
  have HM := Lib.hid (show M.ch n (k0) = M.ch n k0 from rfl)
  have HC := Lib.hid (cell_of_new w (.slice none 0 0) 24)
  have ho := own_one (w.alloc (.cells #[.slice none 0 0] 24)) (w.heap.size + 1) (by simp)
  rw [World.size_alloc] at ho
  have HO1 := Lib.hid ho
  clear ho
  have d1 : decide ((n : Int) < 0) = false := by simp
  have d2 : decide ((4096 : Int) < (n : Int)) = false := by simp; omega
  have d3 : decide ((k0 : Int) < 0) = false := by simp
  have d4 : decide (n < k0) = false := by simp; omega
  go_enter Tryd.func70, Tryd.ntmps70
  go_wp2_with fail
  go_loopw [6, 29] (fun s i wr => ChRel w n (k0) s i wr) (fun _ i _ => (k0) - (intOf i).toNat)
  case atStart => exact ⟨0, _, 1, rfl, Nat.zero_le _, by rw [M.ch_zero, dig_one]; rfl, by rw [M.ch_zero, dig_one]; exact HO1.out, cell_later _ HC.out.1, frozen_later _ HC.out.1 HC.out.2, ((Below.refl _ w).alloc (Nat.le_refl _) _).alloc (by simp) _⟩
  case round =>
    clear HO1 HC
    obtain ⟨k, a, cap, rfl, hk, rfl, hown, hc0, hf0, hbW⟩ := hrel
    have hsW := hbW.size
    have hw1 : w.heap.size + 1 ≤ wr.heap.size := by have := lt_of_cell hc0; simp at this; omega
    have HB := Lib.hid hbW
    clear hbW
    by_cases hlt : k < k0
    · have hlen := ch_dig_len hn k
      have hs := scale_any (w.heap.size + 1) a cap (M.dig (M.ch n k)) (n - k) 0 wr hw1 (by omega) (by omega) (M.lim_dig _) (by omega) hown
      rw [show ((n - k : Nat) : Int) = (n : Int) - (k : Int) from by omega] at hs
      have HS := Lib.hid hs
      clear hs hown
      go_wp2_with fail
      refine HS.out.mono ?_
      rintro e w1 ⟨a1, cap1, ys, rfl, ho1, hb1, hlim1, hl1, hv1⟩
      have HR := Lib.hid (ch_round (by omega) hlim1 hv1)
      clear hv1 HS
      have hc1 := (hb1.cell (p := ⟨w.heap.size, 0, none⟩) (by simp)).trans hc0
      have hf1 := (hb1.frozen (p := ⟨w.heap.size, 0, none⟩) (by simp)).trans hf0
      have hsh := shrink_any (w.heap.size + 1) a1 cap1 ys (k + 1) w1 (by omega) (by omega) hlim1 ho1
      have hw2 : w.heap.size + 1 ≤ w1.heap.size := Nat.le_trans hw1 hb1.size
      have HO1 := Lib.hid ho1
      have HB1 := Lib.hid hb1
      have HSH := Lib.hid hsh
      clear ho1 hb1 hsh hc0 hf0
      go_wp2_with fail
      refine HSH.out.mono ?_
      rintro e w2 ⟨rfl, ho2, hg2⟩
      have hb2 := below_of_grown HO1.out hg2 hw2
      have hc2 := (hb2.cell (p := ⟨w.heap.size, 0, none⟩) (by simp)).trans hc1
      have hf2 := (hb2.frozen (p := ⟨w.heap.size, 0, none⟩) (by simp)).trans hf1
      rw [← M.shr_len ((k + 1 : Nat) : Int) ys] at ho2
      have htr := trim_any a1 (M.shr ((k + 1 : Nat) : Int) ys).2 cap1 w2 ho2.rowAt
      have hot := ho2.trimmed
      rw [HR.out] at htr hot
      rw [M.shr_len] at htr
      obtain ⟨a3, cap3, hcut⟩ := cut_slice a1 cap1 (M.dig (M.ch n (k + 1)))
      rw [hcut] at htr hot
      have hw3 : w.heap.size + 1 ≤ w2.heap.size := Nat.le_trans hw2 hb2.size
      have HT := Lib.hid htr
      have HOT := Lib.hid hot
      have HB2 := Lib.hid hb2
      clear htr hot hb2 hg2 ho2 hcut HSH HO1 hc1 hf1
      go_wp2_with fail
      refine HT.out.mono ?_
      rintro e w3 ⟨rfl, hb3⟩
      have HB3 := Lib.hid hb3
      have hc3 := (hb3.cell (p := ⟨w.heap.size, 0, none⟩) hw3).trans hc2
      have hf3 := (hb3.frozen (p := ⟨w.heap.size, 0, none⟩) hw3).trans hf2
      clear hb3
      go_wp2_with fail
      go_roundw
      case rel => exact ⟨k + 1, a3, cap3, by go_num, by omega, rfl, HOT.out.below HB3.out, hc3, hf3, ((HB.out.trans (HB1.out.mono (by omega))).trans (HB2.out.mono (by omega))).trans (HB3.out.mono (by omega))⟩
      case measure => simp [intOf]; omega
    · have hkm : k = k0 := by omega
      have hnum : Own wr (w.heap.size + 1) (.slice a (M.dig (M.ch n k)).length cap) (M.dig (M.ch n k0)) := by
        have e : M.ch n k0 = M.ch n k := by first | (rw [hkm]; done) | (rw [hkm]; exact HM.out.symm)
        rw [e]; exact hown
      have HN := Lib.hid hnum
      clear hnum hown hkm
      go_wp2
      exact bodyPost_ret (v := .tuple #[.agg #[.slice a (M.dig (M.ch n k)).length cap], .int .i64 0]) (by simp [results, Tryd.results70, go_sem, hc0]) rfl ⟨.agg #[.slice a (M.dig (M.ch n k)).length cap], rfl, (HN.out.setBelow (p := ⟨w.heap.size, 0, none⟩) (by simp) _).num, HB.out.setCell (p := ⟨w.heap.size, 0, none⟩) (Nat.le_refl _) _⟩

set_option maxRecDepth 100000 in
set_option maxHeartbeats 1000000 in
theorem choose_none (n : Nat) (k : Int) (w : World) (hn : n ≤ 4096) (hk : k < 0 ∨ (n : Int) < k) :
    Calls Tryd.prog 70 #[.int .i64 (n : Int), .int .i64 k] w fun e W' => e = .returned (.tuple #[.agg #[.slice none 0 0], .int .i64 0]) ∧ Below w.heap.size w W' := by
  have c0 := (cell_of_new w (.slice none 0 0) 24).1
  have d1 : decide ((n : Int) < 0) = false := by simp
  have d2 : decide ((4096 : Int) < (n : Int)) = false := by simp; omega
  by_cases h : k < 0
  · clear hk
    go_enter Tryd.func70, Tryd.ntmps70
    go_wp2
    exact bodyPost_ret (v := .tuple #[.agg #[.slice none 0 0], .int .i64 0]) (by simp [results, Tryd.results70, go_sem]) rfl ⟨rfl, (Below.refl _ w).alloc (Nat.le_refl _) _⟩
  · have h2 : (n : Int) < k := by omega
    have h3 : ¬ k < 0 := h
    clear hk h
    go_enter Tryd.func70, Tryd.ntmps70
    go_wp2
    exact bodyPost_ret (v := .tuple #[.agg #[.slice none 0 0], .int .i64 0]) (by simp [results, Tryd.results70, go_sem]) rfl ⟨rfl, (Below.refl _ w).alloc (Nat.le_refl _) _⟩

/-- The number of sets of k out of n things, for any k. -/
def chI (n : Nat) (k : Int) : Nat := if k < 0 then 0 else M.ch n k.toNat

theorem num_zero (W : World) : Num W (.agg #[.slice none 0 0]) 0 := (Own.nil W 0).num' (by rw [M.dig_zero])

/-- **nat.Choose** -/
theorem choose_num (n : Nat) (k : Int) (w : World) (hn : n ≤ 4096) :
    Calls Tryd.prog 70 #[.int .i64 (n : Int), .int .i64 k] w fun e W' => ∃ v, e = .returned (.tuple #[v, .int .i64 0]) ∧ Num W' v (chI n k) ∧ Below w.heap.size w W' := by
  by_cases h : k < 0 ∨ (n : Int) < k
  · refine (choose_none n k w hn h).mono ?_
    rintro e W' ⟨rfl, hb⟩
    refine ⟨_, rfl, ?_, hb⟩
    have : chI n k = 0 := by
      unfold chI
      split
      · rfl
      · exact M.ch_gt _ _ (by omega)
    rw [this]
    exact num_zero _
  · obtain ⟨k0, rfl⟩ : ∃ k0 : Nat, k = k0 := ⟨k.toNat, by omega⟩
    have e : chI n (k0 : Int) = M.ch n k0 := by unfold chI; rw [if_neg (by omega)]; rfl
    rw [e]
    rcases Nat.lt_or_ge (n - k0) k0 with h1 | h1
    · exact choose_hi n k0 w hn (by omega) h1
    · exact choose_lo n k0 w hn (by omega) h1
end Go.Proofs.YtmejneobfkbgeaaDoor

namespace Go.Proofs.YtmejneobfkbgeaaDoor
open Go Go.RowKit Go.Shelf

theorem own_empty (w : World) (B : Nat) (h : B ≤ w.heap.size) : Own (w.alloc (.cells #[] 3)) B (.slice (some ⟨w.heap.size, 0, none⟩) 0 0) [] :=
  World.ownsRow_made (base := B) (e := 3) (size := 1) w #[] 0 h (by unfold maxLen; omega) rfl

/-- **append(s, t...)**, s owned, t any. -/
theorem wpList_appAll {W : World} {ops : Array Oper} {rest : List Oper} {o : Oper} {a : Act} {Q : Exit → Act → World → Prop} (hgd : o.guard = none) (s x : Operand)
    (ho : o.op = .call { callee := .builtin .append, args := #[s, x], argTypes := #[22, 22] }) {B : Nat} {v : Value} {zs ys : List Int} (hs : a.eval s = v) (hown : Own W B v zs)
    {b off cap : Nat} (hx : a.eval x = .slice (some ⟨b, off, none⟩) ys.length cap) (hr : Row W (some ⟨b, off, none⟩) ys cap) (hl : zs.length + ys.length < 1000000) (hbase : B ≤ W.heap.size)
    (h : ∀ a' cap' W', Own W' B (.slice a' (zs ++ ys).length cap') (zs ++ ys) → Below B W W' → wpList Tryd.prog ops Q rest (a.put o.dst (.slice a' (zs.length + ys.length) cap')) W') : wpList Tryd.prog ops Q (o :: rest) a W := by
  obtain ⟨i0, hi, hz0, hz1, hz2⟩ := info_parts info_int
  refine wpList_append_own W hgd s x 22 ho B 3 i0 (.int .i64 0) 1 8 Tryd.underlying22 hi hz0 hz1 hz2 rfl (by decide) v zs.length (zs.map (Value.int .i64)) hs hown ⟨b, off, none⟩ ys.length cap (ys.map (Value.int .i64)) hx (by simp) ?_ ?_ (by unfold maxLen; omega) (by omega) hbase ?_
  · intro j u hj
    rw [List.getElem?_map] at hj
    by_cases hlt : j < ys.length
    · have hc := hr.cell j hlt
      rw [List.getElem?_eq_getElem hlt] at hj
      simp only [Option.map_some, Option.some.injEq] at hj
      subst hj
      rw [M.el, List.getElem?_eq_getElem hlt] at hc
      by_cases hj0 : j = 0
      · subst hj0; simpa [Addr.add] using hc
      · simpa [Addr.add, hj0] using hc
    · rw [List.getElem?_eq_none (by omega)] at hj; simp at hj
  · intro u hu
    obtain ⟨z, _, rfl⟩ := List.mem_map.1 hu
    rfl
  · intro v' W' hown' hgrow _
    have ho2 : Own W' B v' (zs ++ ys) := by unfold Own; rw [List.length_append, List.map_append]; exact hown'
    have hB2 : Below B W W' := (Below.refl B W).grown hgrow hbase (fun k e => (World.ownsRow.lt hown k e).1)
    obtain ⟨a', cap', rfl, _⟩ := ho2.row
    have := h a' cap' W' ho2 hB2
    simpa using this

set_option maxRecDepth 100000 in
set_option maxHeartbeats 1000000 in
/-- **slices.Clone** -/
theorem clone_any (a : Option Addr) (zs : List Int) (cap : Nat) (w : World) (hR : Row w a zs cap) (h0 : 0 < zs.length) (hl : zs.length < 100000) :
    Calls Tryd.prog 40 #[.slice a zs.length cap] w fun e W' => ∃ a' cap', e = .returned (.slice a' zs.length cap') ∧ Own W' w.heap.size (.slice a' zs.length cap') zs ∧ Below w.heap.size w W' := by
  obtain ⟨b, off, rfl, _⟩ := hR.el 0 h0
  have HR := Lib.hid (hR.alloc (.cells #[] 3))
  have HO := Lib.hid (own_empty w w.heap.size (Nat.le_refl _))
  clear hR
  have q22 : ∀ (w : World) (a : Option Addr) (n c n' c' : Nat), (binOp .eql 22 (.slice a n c) (.slice none n' c')).run Tryd.prog w = .ok (.bool a.isNone) w := fun w a n c n' c' => Lib.run_eql_slice_nil w _ _ a n c n' c' Tryd.underlying22
  go_enter Tryd.func40, Tryd.ntmps40
  go_wp2_with (at_builtin; refine wpList_appAll rfl _ _ rfl rfl HO.out rfl HR.out (by simp; omega) (by simp) ?_; intro a' cap' W' hown' hb')
  go_ret
  exact ⟨a', cap', rfl, by simpa using hown', ((Below.refl _ w).alloc (Nat.le_refl _) _).trans hb'⟩
end Go.Proofs.YtmejneobfkbgeaaDoor

namespace Go.Proofs.YtmejneobfkbgeaaDoor
open Go Go.RowKit Go.Shelf

/-- The slice v of bytes, made from block B on, holds bs. -/
def OwnB (W : World) (B : Nat) (v : Value) (bs : List Nat) : Prop := W.ownsRow B 5 1 v bs.length (bs.map fun (b : Nat) => Value.int .u8 (b : Int))

theorem OwnB.nil (W : World) (B : Nat) : OwnB W B (.slice none 0 0) [] := World.ownsRow_nil _ _ _ _
theorem OwnB.below {W W' : World} {B : Nat} {v : Value} {bs : List Nat} (h : OwnB W B v bs) (hb : Below W.heap.size W W') : OwnB W' B v bs :=
  World.ownsRow.kept h (grown_of_below hb) (by cases v.ownBlock with | none => exact .inl rfl | some k => exact .inr (by intro e; cases e))
theorem OwnB.alloc {W : World} {B : Nat} {v : Value} {bs : List Nat} (h : OwnB W B v bs) (o : Obj) : OwnB (W.alloc o) B v bs :=
  h.below ((Below.refl _ W).alloc (Nat.le_refl _) _)
/-- Kept while another block below B turns. -/
theorem OwnB.kept {W W' : World} {B : Nat} {v : Value} {bs : List Nat} (h : OwnB W B v bs) {row : Option Nat} (hg : W.grownBy W' row) (hr : ∀ k, row = some k → k < B) : OwnB W' B v bs :=
  World.ownsRow.kept h hg (by
    cases hv : v.ownBlock with
    | none => exact .inl rfl
    | some k => exact .inr (by intro e; have h1 := hr k e.symm; have h2 := (World.ownsRow.lt h k hv).1; omega))
theorem OwnB.slice {W : World} {B : Nat} {v : Value} {bs : List Nat} (h : OwnB W B v bs) : ∃ a cap, v = .slice a bs.length cap := by
  obtain ⟨h1, h2 | ⟨g, cap, cur, hv, _⟩⟩ := h
  · exact ⟨none, 0, by rw [h2.1, h2.2]⟩
  · exact ⟨_, cap, hv⟩
theorem OwnB.parts {W : World} {B : Nat} {a : Option Addr} {n cap : Nat} {bs : List Nat} (h : OwnB W B (.slice a n cap) bs) (h0 : 0 < bs.length) :
    ∃ g, a = some ⟨g, 0, none⟩ ∧ B ≤ g ∧ g < W.heap.size ∧ bs.length ≤ cap ∧ cap ≤ 9223372036854775807 ∧ ∀ (j : Nat) (hj : j < bs.length), W.cell? ⟨g, j, none⟩ = some (.int .u8 (bs[j] : Nat)) ∧ W.frozen? ⟨g, j, none⟩ = false := by
  have h' := h
  obtain ⟨h1, h2 | ⟨g, cap', cur, hv, hg, hh, r1, r2, r3⟩⟩ := h
  · omega
  · cases hv
    refine ⟨g, rfl, hg, (Array.getElem?_eq_some_iff.1 hh).1, r1, r2, fun j hj => ⟨?_, World.ownsRow.frozenAt h' j⟩⟩
    rw [World.ownsRow.cellAt h' j (by simpa using hj), List.getElem?_map, List.getElem?_eq_getElem hj]
    rfl

theorem info_byte : (Tryd.prog.info? 5).map (fun i => (i.zero, i.size, i.bytes)) = some (some (.int .u8 0), 1, 1) := by kernel_rfl

/-- **append(s, x)**, s a slice of bytes that is owned. -/
theorem wpList_appB {W : World} {ops : Array Oper} {rest : List Oper} {o : Oper} {a : Act} {Q : Exit → Act → World → Prop} (hgd : o.guard = none) (s x : Operand)
    (ho : o.op = .call { callee := .builtin .append, args := #[s, x], argTypes := #[38, 38] }) {B : Nat} {v : Value} {bs : List Nat} {X : Int} (z : Nat) (hs : a.eval s = v) (hown : OwnB W B v bs)
    {b : Nat} (hx : a.eval x = .slice (some ⟨b, 0, none⟩) 1 1) (hc : W.cell? ⟨b, 0, none⟩ = some (.int .u8 X)) (hz : X = (z : Int)) (hl : bs.length < 1000000) (hbase : B ≤ W.heap.size)
    (h : ∀ a' cap' W', OwnB W' B (.slice a' (bs ++ [z]).length cap') (bs ++ [z]) → W.grownBy W' v.ownBlock → wpList Tryd.prog ops Q rest (a.put o.dst (.slice a' (bs.length + 1) cap')) W') : wpList Tryd.prog ops Q (o :: rest) a W := by
  subst hz
  obtain ⟨i0, hi, hz0, hz1, hz2⟩ := info_parts info_byte
  refine wpList_append_own W hgd s x 38 ho B 5 i0 (.int .u8 0) 1 1 Tryd.underlying38 hi hz0 hz1 hz2 rfl (by decide) v bs.length _ hs hown ⟨b, 0, none⟩ 1 1 [.int .u8 (z : Int)] hx rfl ?_ ?_ (by unfold maxLen; omega) (by omega) hbase ?_
  · intro j u hj
    match j, hj with
    | 0, hj => simp at hj; subst hj; simpa [Addr.add] using hc
  · intro u hu; simp at hu; subst hu; rfl
  · intro v' W' hown' hgrow _
    have ho2 : OwnB W' B v' (bs ++ [z]) := by unfold OwnB; simpa using hown'
    obtain ⟨a', cap', rfl⟩ := ho2.slice
    have := h a' cap' W' ho2 hgrow
    simpa using this
end Go.Proofs.YtmejneobfkbgeaaDoor

namespace Go.Proofs.YtmejneobfkbgeaaDoor
open Go Go.RowKit Go.Shelf Go.Sort

def trimRen : Go.Shelf.Ren := ⟨fun | 231 => 64 | n => n, fun | 9 => 9 | 5 => 5 | 3 => 3 | 4 => 4 | n => n, fun | n => n⟩
theorem trimLays : Go.Proofs.Lays.n231 Tryd.prog trimRen := {
  mixed := by kernel_rfl
  f231 := Tryd.func64.trans (congrArg some (by kernel_rfl))
  t3 := Tryd.underlying3
  a3 := Tryd.isAgg3
  z3 := Tryd.sizeOf3
  v3 := Tryd.zeroValue3
  t4 := Tryd.underlying4
  a4 := Tryd.isAgg4
  z4 := Tryd.sizeOf4
  v4 := Tryd.zeroValue4
  t5 := Tryd.underlying5
  a5 := Tryd.isAgg5
  z5 := Tryd.sizeOf5
  v5 := Tryd.zeroValue5
  t9 := Tryd.underlying9
  a9 := Tryd.isAgg9
  z9 := Tryd.sizeOf9
  v9 := Tryd.zeroValue9 }
theorem trimLeftByte_any (s : ByteArray) (c : UInt8) (w : World) :
    Calls Tryd.prog 64 #[.string s, .int .u8 c.toNat] w fun e w' => e = .returned (.string ⟨(Lib.trimLeftB s.data.toList c).toArray⟩) ∧ w' = w := Any.strings_trimLeftByte trimLays s c w

def revRen : Go.Shelf.Ren := ⟨fun | 35 => 43 | n => n, fun | 0 => 0 | 3 => 3 | 4 => 4 | 22 => 38 | 23 => 5 | n => n, fun | n => n⟩
theorem revLays : Go.Proofs.SlLaysE.n35 Tryd.prog revRen := {
  mixed := by kernel_rfl
  f35 := ⟨Tryd.f43.name, by decide, Tryd.func43.trans (congrArg some (by kernel_rfl))⟩
  t0 := Tryd.underlying0
  a0 := Tryd.isAgg0
  z0 := Tryd.sizeOf0
  v0 := Tryd.zeroValue0
  t3 := Tryd.underlying3
  a3 := Tryd.isAgg3
  z3 := Tryd.sizeOf3
  v3 := Tryd.zeroValue3
  t4 := Tryd.underlying4
  a4 := Tryd.isAgg4
  z4 := Tryd.sizeOf4
  v4 := Tryd.zeroValue4
  t22 := Tryd.underlying38
  a22 := Tryd.isAgg38
  z22 := Tryd.sizeOf38
  v22 := Tryd.zeroValue38
  a23 := Tryd.isAgg5
  z23 := Tryd.sizeOf5 }

/-- What lies behind slices.Reverse: the cells reversed; nothing below them has turned. -/
structure RevPost (w : World) (g cap : Nat) (bs : List Nat) (w' : World) : Prop where
  cells : ∀ (j : Nat) (hj : j < bs.reverse.length), w'.cell? ⟨g, j, none⟩ = some (.int .u8 (bs.reverse[j] : Nat))
  below : ∀ B, B ≤ g → B ≤ w.heap.size → Below B w w'
  size : w'.heap.size = w.heap.size

theorem reverse_any (g cap : Nat) (bs : List Nat) (w : World) (hl : bs.length ≤ 9223372036854775807) (hc : ∀ (j : Nat) (hj : j < bs.length), w.cell? ⟨g, j, none⟩ = some (.int .u8 (bs[j] : Nat)) ∧ w.frozen? ⟨g, j, none⟩ = false) :
    Calls Tryd.prog 43 #[.slice (some ⟨g, 0, none⟩) bs.length cap] w fun e w' => e = .returned (.tuple #[]) ∧ RevPost w g cap bs w' := by
  have hH : Holds (fun (b : Nat) => Value.int .u8 (b : Int)) w g 0 bs.toArray := fun j hj => by
    have hj' : j < bs.length := by simpa using hj
    obtain ⟨h1, h2⟩ := hc j hj'
    rw [Nat.zero_add]
    refine ⟨?_, h2⟩
    rw [h1]
    simp [getElem!_pos, hj']
  refine (AnyE.slices_Reverse revLays (fun (b : Nat) => Value.int .u8 (b : Int)) (fun _ => rfl) g 0 cap bs w hH hl).mono ?_
  rintro e w' ⟨he, n, rfl⟩
  refine ⟨he, ?_, ?_, ?_⟩
  · intro j hj
    have h := (holds_putRow (fun (b : Nat) => Value.int .u8 (b : Int)) _ g 0 bs.toArray bs.reverse.toArray (holds_ahead _ w n g 0 _ hH) (by simp) j (by simpa using hj)).1
    rw [Nat.zero_add] at h
    rw [h]
    simp only [List.length_reverse] at hj
    simp [getElem!_pos, hj]
  · intro B h1 h2
    refine ⟨rfl, rfl, rfl, by simp [putRow, mapBlock], fun k hk => ?_⟩
    simp only [putRow, mapBlock, Array.getElem?_modify]
    rw [if_neg (by omega)]
    rfl
  · simp [putRow, mapBlock]

set_option maxRecDepth 100000 in
set_option maxHeartbeats 400000 in
/-- strings.TrimLeft(s, "0") -/
theorem trimLeft_zero (s : ByteArray) (w : World) (hs : s.size ≤ 9223372036854775807) :
    Calls Tryd.prog 44 #[.string s, .string ⟨#[48]⟩] w fun e w' => e = .returned (.string ⟨(s.data.toList.dropWhile (· == 48)).toArray⟩) ∧ w' = w := by
  by_cases h0 : s.data.toList = []
  · have hs0 : s = ⟨#[]⟩ := by obtain ⟨⟨l⟩⟩ := s; simp at h0; subst h0; rfl
    subst hs0
    go_enter Tryd.func44, Tryd.ntmps44
    go_wp2_with fail
    go_ret
    exact ⟨rfl, rfl⟩
  · have hb : s.toList.isEmpty = false := by rw [ByteArray.toList_eq]; simpa using h0
    have hb2 : ¬ s.toList = [] := by rw [ByteArray.toList_eq]; exact h0
    have HT := Lib.hid (trimLeftByte_any s 48 w)
    go_enter Tryd.func44, Tryd.ntmps44
    go_wp2_with fail
    refine HT.out.mono ?_
    rintro e w' ⟨rfl, rfl⟩
    go_wp2_with fail
    go_ret
    exact ⟨rfl, rfl⟩
end Go.Proofs.YtmejneobfkbgeaaDoor

namespace Go.Proofs.YtmejneobfkbgeaaDoor
namespace M
/-- The k lowest digits of g, lowest first, as bytes. -/
def dg : Nat → Nat → List Nat
  | 0, _ => []
  | k + 1, g => (48 + g % 10) :: dg k (g / 10)
theorem dg_len (k g : Nat) : (dg k g).length = k := by
  induction k generalizing g with
  | zero => rfl
  | succ k ih => simp [dg, ih]
theorem dg_add (a b g : Nat) : dg (a + b) g = dg a g ++ dg b (g / 10 ^ a) := by
  induction a generalizing g with
  | zero => simp [dg]
  | succ a ih =>
    rw [show a + 1 + b = (a + b) + 1 from by omega]
    simp only [dg, List.cons_append, ih]
    rw [Nat.div_div_eq_div_mul, Nat.pow_succ, Nat.mul_comm (10 ^ a) 10]
theorem dg_mod (a g : Nat) : dg a (g % 10 ^ a) = dg a g := by
  induction a generalizing g with
  | zero => rfl
  | succ a ih =>
    simp only [dg]
    have e1 : g % 10 ^ (a + 1) % 10 = g % 10 := by rw [Nat.pow_succ, Nat.mul_comm]; exact Nat.mod_mul_right_mod g 10 (10 ^ a)
    have e2 : g % 10 ^ (a + 1) / 10 = g / 10 % 10 ^ a := by rw [Nat.pow_succ, Nat.mul_comm]; exact Nat.mod_mul_right_div_self g 10 (10 ^ a)
    rw [e1, e2, ih]
theorem dg_snoc (k g : Nat) : dg (k + 1) g = dg k g ++ [48 + g / 10 ^ k % 10] := by rw [dg_add]; rfl
theorem dg_zero (k : Nat) : dg k 0 = List.replicate k 48 := by
  induction k with
  | zero => rfl
  | succ k ih => simp [dg, ih, List.replicate_succ]
theorem dg_byte (k g : Nat) : ∀ b ∈ dg k g, 48 ≤ b ∧ b ≤ 57 := by
  induction k generalizing g with
  | zero => intro b h; cases h
  | succ k ih =>
    intro b h
    simp only [dg, List.mem_cons] at h
    rcases h with h | h
    · omega
    · exact ih _ b h
/-- The digits of n, highest first, without leading zeros, taken from its k lowest digits. -/
def decs (k n : Nat) : List Nat := (dg k n).reverse.dropWhile (· == 48)
theorem decs_more (k d n : Nat) (h : n < 10 ^ k) : decs (k + d) n = decs k n := by
  unfold decs
  rw [dg_add, Nat.div_eq_of_lt h, dg_zero, List.reverse_append, List.reverse_replicate]
  induction d with
  | zero => simp
  | succ d ih => rw [List.replicate_succ, List.cons_append, List.dropWhile_cons_of_pos rfl, ih]
theorem decs_any {k j n : Nat} (hk : n < 10 ^ k) (hj : n < 10 ^ j) : decs k n = decs j n := by
  rcases Nat.le_total k j with h | h
  · obtain ⟨d, rfl⟩ : ∃ d, j = k + d := ⟨j - k, by omega⟩
    exact (decs_more k d n hk).symm
  · obtain ⟨d, rfl⟩ : ∃ d, k = j + d := ⟨k - j, by omega⟩
    exact decs_more j d n hj
end M
end Go.Proofs.YtmejneobfkbgeaaDoor

namespace Go.Proofs.YtmejneobfkbgeaaDoor
open Go Go.RowKit Go.Shelf

/-- The length of a slice. -/
def lenOf : Value → Nat | .slice _ n _ => n | _ => 0

def PrRel (w : World) (n Bd : Nat) (d r : Value) (W : World) : Prop :=
  ∃ (j : Nat) (a : Option Addr) (cap : Nat) (a2 : Option Addr) (cap2 : Nat), r = .slice a (M.dig (n / 10 ^ (9 * j))).length cap ∧ Own W w.heap.size (.slice a (M.dig (n / 10 ^ (9 * j))).length cap) (M.dig (n / 10 ^ (9 * j))) ∧
    (∀ g, (Value.slice a (M.dig (n / 10 ^ (9 * j))).length cap).ownBlock = some g → g < Bd) ∧ d = .slice a2 (9 * j) cap2 ∧ OwnB W Bd (.slice a2 (9 * j) cap2) (M.dg (9 * j) n) ∧ j + (M.dig (n / 10 ^ (9 * j))).length ≤ 200 ∧ Below w.heap.size w W ∧ Bd ≤ W.heap.size

def PrIn (w : World) (vq : Value) (D : List Nat) (qs : List Int) (c g Bd : Nat) (d gr i : Value) (W : World) : Prop :=
  ∃ (k gk : Nat) (a2 : Option Addr) (cap2 : Nat), i = .int .i64 (k : Int) ∧ k ≤ 9 ∧ gr = .int .i64 (gk : Int) ∧ gk = g / 10 ^ k ∧ gk < 1000000000 ∧ d = .slice a2 (c + k) cap2 ∧ OwnB W Bd (.slice a2 (c + k) cap2) (D ++ M.dg k g) ∧ Own W w.heap.size vq qs ∧ Below w.heap.size w W ∧ Bd ≤ W.heap.size

def PrPost (n : Nat) (e : Ending) : Prop := ∃ k, n < 10 ^ k ∧ e = .returned (.string ⟨((M.decs k n).map UInt8.ofNat).toArray⟩)

theorem pr_app {w W W' : World} {N Bd : Nat} {vq vd : Value} {qs : List Int} {ds : List Nat} {o : Obj} (hO : Own W N vq qs) (hrest : ∀ g, vq.ownBlock = some g → g < Bd) (hD : OwnB W Bd vd ds) (hg : (W.alloc o).grownBy W' vd.ownBlock) (hBd : Bd ≤ W.heap.size) (hN : N ≤ Bd) (hbw : Below N w W) :
    Own W' N vq qs ∧ Below N w W' ∧ Bd ≤ W'.heap.size := by
  have hb : ∀ k, vd.ownBlock = some k → Bd ≤ k := fun k e => (World.ownsRow.lt hD k e).1
  refine ⟨World.ownsRow.kept (hO.alloc o) hg ?_, ((hbw.alloc (Nat.le_trans hN hBd) o).grown hg (by simp; omega) (fun k e => Nat.le_trans hN (hb k e))), Nat.le_trans hBd (Nat.le_trans (by simp) hg.size)⟩
  cases hv : vq.ownBlock with
  | none => exact .inl rfl
  | some k => exact .inr (by intro e; have := hrest k hv; have := hb k e.symm; omega)

theorem pr_conv {w w' : World} {g cap L : Nat} {bs : List Nat} (h : RevPost w g cap bs w') (hl : bs.length = L) :
    (convert 38 9 (.slice (some ⟨g, 0, none⟩) L cap)).run Tryd.prog w' = .ok (.string (strOfNums (bs.reverse.map fun (b : Nat) => (b : Int)))) w' := by
  refine run_convert_bytes_arg w' 38 5 Tryd.underlying38 Tryd.underlying5 g 0 L cap _ (by simp [hl]) (fun i hi => ?_) 9 Tryd.underlying9
  have hi' : i < bs.reverse.length := by simp; omega
  rw [Nat.zero_add, h.cells i hi', List.getD_eq_getElem?_getD, List.getElem?_map, List.getElem?_eq_getElem hi']
  rfl

theorem drop_bytes (l : List Nat) (h : ∀ b ∈ l, b < 256) : ((l.map fun (b : Nat) => (b : Int)).map fun n => UInt8.ofNat n.toNat).dropWhile (· == 48) = (l.dropWhile (· == 48)).map UInt8.ofNat := by
  induction l with
  | nil => rfl
  | cons b l ih =>
    have hb := h b (List.mem_cons_self ..)
    have i := ih (fun x hx => h x (List.mem_cons_of_mem _ hx))
    simp only [List.map_cons, Int.toNat_natCast, List.dropWhile_cons]
    by_cases e : b = 48
    · subst e
      simp only [beq_self_eq_true, if_true]
      exact i
    · have e2 : (UInt8.ofNat b == 48) = false := by
        rw [beq_eq_false_iff_ne]
        intro hc
        have := congrArg UInt8.toNat hc
        rw [UInt8.toNat_ofNat'] at this
        have h48 : (48 : UInt8).toNat = 48 := rfl
        rw [h48] at this
        omega
      have e3 : (b == 48) = false := by rw [beq_eq_false_iff_ne]; exact e
      rw [e2, e3]
      simp

theorem ownBlock_len (a : Option Addr) (n c n' c' : Nat) : (Value.slice a n c).ownBlock = (Value.slice a n' c').ownBlock := by cases a <;> rfl
theorem ownBlock_cut {a : Option Addr} {c : Nat} {ts : List Int} {n' c' Bd : Nat} (h : ∀ g, (Value.slice a n' c').ownBlock = some g → g < Bd) : ∀ g, (cut a c ts).ownBlock = some g → g < Bd := by
  unfold cut
  split
  · intro g e; cases e
  · intro g e; exact h g ((ownBlock_len _ _ _ _ _).trans e)

theorem dig_shorter {m : Nat} (h : 0 < m) : (M.dig (m / 1000000000)).length < (M.dig m).length := by
  have h1 := M.dig_len_le.1 (Nat.le_refl (M.dig m).length)
  have h0 : (M.dig m).length ≠ 0 := by intro e; have := M.dig_nil.1 (List.length_eq_zero_iff.1 e); omega
  obtain ⟨k, hk⟩ := Nat.exists_eq_succ_of_ne_zero h0
  rw [hk] at h1 ⊢
  have : (M.dig (m / 1000000000)).length ≤ k := M.dig_len_le.2 (by rw [Nat.pow_succ] at h1; omega)
  omega

set_option maxRecDepth 100000 in
set_option maxHeartbeats 2000000 in
theorem print_pos (a : Option Addr) (cap n : Nat) (w : World) (hn : 0 < n) (hlen : (M.dig n).length ≤ 200) (hR : Row w a (M.dig n) cap) :
    Calls Tryd.prog 20 #[.agg #[.slice a (M.dig n).length cap]] w fun e W' => PrPost n e ∧ Below w.heap.size w W' := by
  have Hv := Lib.hid (vld_dig hlen)
  have h0 : 0 < (M.dig n).length := by
    rcases Nat.eq_zero_or_pos (M.dig n).length with h | h
    · have := M.dig_nil.1 (List.length_eq_zero_iff.1 h); omega
    · exact h
  have hb1 := (Below.refl _ w).alloc (Nat.le_refl _) (.cells #[.slice a (M.dig n).length cap] 24)
  have c0 := cell_new w (.slice a (M.dig n).length cap) 24
  have hs1 : (w.alloc (.cells #[.slice a (M.dig n).length cap] 24)).heap.size = w.heap.size + 1 := by simp
  have HR := Lib.hid (hR.below hb1)
  have hca := hR.room
  have hcm := hR.most
  clear hR
  go_enter Tryd.func20, Tryd.ntmps20
  go_wp2_with fail
  generalize (w.alloc (.cells #[.slice a (M.dig n).length cap] 24)) = w1 at *
  have HS1 := Lib.hid hs1
  have HB1 := Lib.hid hb1
  have hlt1 : w.heap.size < w1.heap.size := by omega
  clear hs1 hb1
  refine (valid_yes a _ cap _ HR.out Hv.out).mono ?_
  rintro e w2 ⟨rfl, hb2⟩
  have c2 := (hb2.cell (p := ⟨w.heap.size, 0, none⟩) hlt1).trans c0
  have HB2 := Lib.hid (HB1.out.trans (hb2.mono (by have := HS1.out; omega)))
  have hcl := clone_any a (M.dig n) cap w2 (HR.out.below hb2) h0 (by omega)
  have hs2 := hb2.size
  have HCL := Lib.hid hcl
  clear hcl hb2 c0
  go_wp2_with fail
  refine HCL.out.mono ?_
  rintro e w3 ⟨a', cap', rfl, ho3, hb3⟩
  have HO3 := Lib.hid ho3
  have HB3 := Lib.hid hb3
  clear ho3 hb3 c2 HCL
  go_wp2_with fail
  go_loopw [3, 4] (fun d r wr => PrRel w n w3.heap.size d r wr) (fun _ r _ => lenOf r)
  case atStart =>
    refine ⟨0, a', cap', none, 0, by simp, by simpa using HO3.out.mono (by omega), fun g hg => (World.ownsRow.lt HO3.out g (by simpa using hg)).2, rfl, OwnB.nil _ _, by simpa using hlen, HB2.out.trans (HB3.out.mono (by omega)), Nat.le_refl _⟩
  case round =>
    obtain ⟨j, a1, cap1, a2, cap2, rfl, ho, hg, rfl, hd, hj, hbW, hBd⟩ := hrel
    have hN : w.heap.size ≤ w3.heap.size := by have := HB2.out.size; have := HB3.out.size; omega
    have hgr : ∀ k, (Value.slice a2 (9 * j) cap2).ownBlock = some k → w3.heap.size ≤ k := fun k e => (World.ownsRow.lt hd k e).1
    obtain ⟨m, hm⟩ : ∃ m, m = n / 10 ^ (9 * j) := ⟨_, rfl⟩
    rw [← hm] at ho hg hj ⊢
    have HM := Lib.hid hm
    have HD := Lib.hid hd
    have HG := Lib.hid hg
    have HBW := Lib.hid hbW
    have HGR := Lib.hid hgr
    have HO := Lib.hid ho
    clear hm hd hg hbW hgr
    by_cases h0m : 0 < m
    · have hl0 : 0 < (M.dig m).length := by
        rcases Nat.eq_zero_or_pos (M.dig m).length with h | h
        · have := M.dig_nil.1 (List.length_eq_zero_iff.1 h); omega
        · exact h
      have hsh : Calls Tryd.prog 42 #[.slice a1 (M.dig m).length cap1, .int .i64 1000000000] wr _ := shrink_any w.heap.size a1 cap1 (M.dig m) 1000000000 wr (by omega) (by omega) (M.lim_dig m) ho
      have hnat := M.shr_nat (d := 1000000000) (by omega) (M.lim_dig m) (M.val_dig m)
      rw [hnat.2] at hsh
      have hqlen := M.shr_len ((1000000000 : Nat) : Int) (M.dig m)
      have hTR := hnat.1
      generalize (M.shr ((1000000000 : Nat) : Int) (M.dig m)).2 = qs at *
      have HSH := Lib.hid hsh
      have HTR := Lib.hid hTR
      have HQ := Lib.hid hqlen
      clear hsh hTR hqlen hnat ho
      go_wp2_with fail
      refine HSH.out.mono ?_
      rintro e w4 ⟨rfl, ho4, hg4⟩
      have hd4 := HD.out.kept hg4 HG.out
      have hb4 := below_of_grown HO.out hg4 (by have := HBW.out.size; omega)
      have hB4 : w3.heap.size ≤ w4.heap.size := Nat.le_trans hBd hb4.size
      rw [← HQ.out] at ho4
      have HO4 := Lib.hid ho4
      have HD4 := Lib.hid hd4
      have HB4 := Lib.hid (HBW.out.trans hb4)
      clear ho4 hd4 hb4 hg4 HSH
      obtain ⟨g, hgm⟩ : ∃ g, g = m % 1000000000 := ⟨_, rfl⟩
      rw [← hgm]
      have HGM := Lib.hid hgm
      clear hgm
      go_wp2_with fail
      have hg9 : g < 1000000000 := by rw [HGM.out]; omega
      go_loopw [3, 5, 23] (fun d gr i wr => PrIn w (.slice a1 qs.length cap1) (M.dg (9 * j) n) qs (9 * j) g w3.heap.size d gr i wr) (fun _ _ i _ => 9 - (intOf i).toNat)
      case atStart => exact ⟨0, g, a2, cap2, rfl, by omega, rfl, by simp, hg9, rfl, by simpa [M.dg] using HD4.out, HO4.out, HB4.out, hB4⟩
      case round =>
        obtain ⟨k, gk, a3, cap3, rfl, hk, rfl, hgk, hgk9, rfl, hd, ho, hbW, hBd2⟩ := hrel
        have HGK := Lib.hid hgk
        have HD := Lib.hid hd
        have HO := Lib.hid ho
        have HBW := Lib.hid hbW
        have hcl : (M.dg (9 * j) n ++ M.dg k g).length = 9 * j + k := by rw [List.length_append, M.dg_len, M.dg_len]
        have HCL := Lib.hid hcl
        clear hgk hd ho hbW hcl HD4 HO4 HB4
        by_cases hlt : k < 9
        · go_wp2_with (at_builtin; refine wpList_appB rfl _ _ rfl (48 + gk % 10) rfl (HD.out.alloc _) rfl (cell_new _ _ _) (by omega) (by rw [HCL.out]; omega) (by simp; omega) ?_; intro a' cap' W' hown' hgr')
          go_roundw
          case rel =>
            obtain ⟨p1, p2, p3⟩ := pr_app HO.out (fun x e => HG.out x ((ownBlock_len _ _ _ _ _).trans e)) HD.out hgr' hBd2 hN HBW.out
            refine ⟨k + 1, gk / 10, a', cap', by go_num, by omega, by go_num, by rw [HGK.out, Nat.div_div_eq_div_mul, Nat.pow_succ], by omega, by rw [M.dg_len, M.dg_len, Nat.add_assoc], ?_, p1, p2, p3⟩
            rw [M.dg_snoc, ← List.append_assoc, ← HGK.out]
            have : (M.dg (9 * j) n ++ M.dg k g ++ [48 + gk % 10]).length = 9 * j + (k + 1) := by rw [List.length_append, HCL.out]; rfl
            rw [this] at hown'
            exact hown'
          case measure => simp [intOf]; omega
        · have hk9 : k = 9 := by omega
          have hd9 := HD.out
          rw [hk9, HGM.out, show (1000000000 : Nat) = 10 ^ 9 from rfl, M.dg_mod, HM.out, ← M.dg_add, show 9 * j + 9 = 9 * (j + 1) from by omega] at hd9
          have htr := trim_any a1 qs cap1 wr HO.out.rowAt
          have hot := HO.out.trimmed
          have hcutb := ownBlock_cut (c := cap1) (ts := M.dig (m / 1000000000)) HG.out
          rw [HTR.out] at htr hot
          rw [HQ.out] at htr
          obtain ⟨a5, cap5, hcut⟩ := cut_slice a1 cap1 (M.dig (m / 1000000000))
          rw [hcut] at htr hot hcutb
          have hmn : m / 1000000000 = n / 10 ^ (9 * (j + 1)) := by rw [HM.out, Nat.div_div_eq_div_mul, show 9 * (j + 1) = 9 * j + 9 from by omega, Nat.pow_add]
          have hsh := dig_shorter h0m
          have HMN := Lib.hid hmn
          have HT := Lib.hid htr
          have HOT := Lib.hid hot
          have HCB := Lib.hid hcutb
          have HD9 := Lib.hid hd9
          have HK9 := Lib.hid hk9
          clear htr hot hcutb hd9 hk9 hcut hmn HD HO
          go_wp2_with (go_at_call 41; refine HT.out.mono ?_; rintro e w6 ⟨rfl, hb6⟩)
          go_roundw
          case rel =>
            refine ⟨j + 1, a5, cap5, a3, cap3, by rw [← HMN.out], by rw [← HMN.out]; exact HOT.out.below hb6, by rw [← HMN.out]; exact HCB.out, by rw [HK9.out]; rfl, HD9.out.below hb6, by rw [← HMN.out]; omega, HBW.out.trans (hb6.mono HBW.out.size), Nat.le_trans hBd2 hb6.size⟩
          case measure => exact hsh
    · have hm0 : m = 0 := by omega
      have hnk : n < 10 ^ (9 * j) := by
        have := HM.out
        rw [hm0] at this
        exact Nat.lt_of_div_eq_zero (Nat.pow_pos (by omega)) this.symm
      have hj0 : 0 < j := by
        rcases Nat.eq_zero_or_pos j with h | h
        · rw [h] at hnk; simp at hnk; omega
        · exact h
      subst hm0
      rw [M.dig_zero]
      have hdl := M.dg_len (9 * j) n
      obtain ⟨g, rfl, hgB, hgW, h3, h4, hcells⟩ := HD.out.parts (by rw [hdl]; omega)
      have hrev := reverse_any g cap2 (M.dg (9 * j) n) wr (by rw [hdl]; omega) hcells
      rw [hdl] at hrev
      have HNK := Lib.hid hnk
      have HRV := Lib.hid hrev
      have HDL := Lib.hid hdl
      clear hnk hrev hdl hcells ho h0m HO HG
      obtain ⟨S, hS⟩ : ∃ S, S = strOfNums ((M.dg (9 * j) n).reverse.map fun (b : Nat) => (b : Int)) := ⟨_, rfl⟩
      have hSs : S.size ≤ 9223372036854775807 := by rw [hS, strOfNums_size, List.length_map, List.length_reverse, HDL.out]; omega
      have HSS := Lib.hid hS
      clear hS
      go_wp2_with (first | (go_at_call 43; refine HRV.out.mono ?_; rintro e w6 ⟨rfl, hrp⟩; have hcv := pr_conv hrp HDL.out; rw [← HSS.out] at hcv; have HRP := Lib.hid hrp; clear hrp) | (go_at_call 44; refine (trimLeft_zero S _ hSs).mono ?_; rintro e w7 ⟨rfl, rfl⟩))
      go_ret
      refine ⟨⟨9 * j, HNK.out, ?_⟩, HBW.out.trans (HRP.out.below _ (by omega) HBW.out.size)⟩
      rw [HSS.out, strOfNums_data, drop_bytes _ (fun b hb => by have := M.dg_byte _ _ b (List.mem_reverse.1 hb); omega)]
      rfl
end Go.Proofs.YtmejneobfkbgeaaDoor

namespace Go.Proofs.YtmejneobfkbgeaaDoor
open Go Go.RowKit Go.Shelf

theorem prPost_at {n K : Nat} {e : Ending} (h : PrPost n e) (hK : n < 10 ^ K) : e = .returned (.string ⟨((M.decs K n).map UInt8.ofNat).toArray⟩) := by
  obtain ⟨k, hk, rfl⟩ := h
  rw [M.decs_any hk hK]

theorem dig_two (n : Nat) (h1 : 16777216 ≤ n) (h2 : n < 281474976710656) : (M.dig n).length = 2 := by
  rw [M.dig_pos (by omega), M.dig_pos (n := n / 16777216) (by omega), show n / 16777216 / 16777216 = 0 by omega, M.dig_zero]; rfl

theorem small_len {n : Nat} (h : n < 16777216 ^ 3) : (M.dig n).length ≤ 200 := Nat.le_trans (M.dig_len_le.2 h) (by omega)
theorem decs15 : (M.decs 15 281474976710656).map UInt8.ofNat = [50, 56, 49, 52, 55, 52, 57, 55, 54, 55, 49, 48, 54, 53, 54] := by decide
theorem decs2 : (M.decs 2 10).map UInt8.ofNat = [49, 48] := by decide

set_option maxRecDepth 100000 in
theorem print_big {a : Option Addr} {cap : Nat} {w : World} (hR : Row w a (M.dig 281474976710656) cap) :
    Calls Tryd.prog 20 #[.agg #[.slice a (M.dig 281474976710656).length cap]] w fun e W' => e = .returned (.string ⟨#[50, 56, 49, 52, 55, 52, 57, 55, 54, 55, 49, 48, 54, 53, 54]⟩) ∧ Below w.heap.size w W' :=
  (print_pos a cap 281474976710656 w (by omega) (small_len (by decide)) hR).mono fun _ _ h => ⟨(prPost_at (K := 15) h.1 (by decide)).trans (by rw [decs15]), h.2⟩

set_option maxRecDepth 100000 in
theorem print_ten {a : Option Addr} {cap : Nat} {w : World} (hR : Row w a (M.dig 10) cap) :
    Calls Tryd.prog 20 #[.agg #[.slice a (M.dig 10).length cap]] w fun e W' => e = .returned (.string ⟨#[49, 48]⟩) ∧ Below w.heap.size w W' :=
  (print_pos a cap 10 w (by omega) (small_len (by decide)) hR).mono fun _ _ h => ⟨(prPost_at (K := 2) h.1 (by decide)).trans (by rw [decs2]), h.2⟩

end Go.Proofs.YtmejneobfkbgeaaDoor

namespace Go.Proofs.YtmejneobfkbgeaaDoor
open Go Go.RowKit Go.Shelf

def lenRen : Go.Shelf.Ren := ⟨fun | 125 => 80 | 128 => 85 | 129 => 86 | n => n, fun | 46 => 63 | 3 => 3 | 51 => 107 | 53 => 109 | 4 => 4 | 5 => 5 | 9 => 9 | n => n, fun | n => n⟩
theorem lenLays : Go.Proofs.Lays.n125 Tryd.prog lenRen := {
  mixed := by kernel_rfl
  f125 := Tryd.func80.trans (congrArg some (by kernel_rfl))
  f128 := Tryd.func85.trans (congrArg some (by kernel_rfl))
  f129 := Tryd.func86.trans (congrArg some (by kernel_rfl))
  t3 := Tryd.underlying3
  a3 := Tryd.isAgg3
  z3 := Tryd.sizeOf3
  v3 := Tryd.zeroValue3
  t4 := Tryd.underlying4
  a4 := Tryd.isAgg4
  z4 := Tryd.sizeOf4
  v4 := Tryd.zeroValue4
  t5 := Tryd.underlying5
  a5 := Tryd.isAgg5
  z5 := Tryd.sizeOf5
  v5 := Tryd.zeroValue5
  t9 := Tryd.underlying9
  a9 := Tryd.isAgg9
  z9 := Tryd.sizeOf9
  v9 := Tryd.zeroValue9
  t46 := Tryd.underlying63
  a46 := Tryd.isAgg63
  z46 := Tryd.sizeOf63
  v46 := Tryd.zeroValue63
  t51 := Tryd.underlying107
  a51 := Tryd.isAgg107
  z51 := Tryd.sizeOf107
  v51 := Tryd.zeroValue107
  t53 := Tryd.underlying109
  a53 := Tryd.isAgg109
  z53 := Tryd.sizeOf109
  v53 := Tryd.zeroValue109 }
theorem bitsLen_any (x : Int) (w : World) (h0 : 0 ≤ x) (h1 : x ≤ 18446744073709551615) :
    Calls Tryd.prog 80 #[.int .u64 x] w fun e w' => e = .returned (.int .i64 (Lib.bitLen x.toNat)) ∧ w' = w := Any.bits_Len lenLays x w h0 h1
def cmpRen : Go.Shelf.Ren := ⟨fun | 122 => 78 | 215 => 84 | n => n, fun | 3 => 3 | 4 => 4 | n => n, fun | n => n⟩
theorem cmpLays : Go.Proofs.Lays.n122 Tryd.prog cmpRen := {
  mixed := by kernel_rfl
  f122 := Tryd.func78.trans (congrArg some (by kernel_rfl))
  f215 := Tryd.func84.trans (congrArg some (by kernel_rfl))
  t3 := Tryd.underlying3
  a3 := Tryd.isAgg3
  z3 := Tryd.sizeOf3
  v3 := Tryd.zeroValue3
  t4 := Tryd.underlying4
  a4 := Tryd.isAgg4
  z4 := Tryd.sizeOf4
  v4 := Tryd.zeroValue4 }
theorem compare_any (x y : Int) (w : World) :
    Calls Tryd.prog 78 #[.int .i64 x, .int .i64 y] w fun e w' => e = .returned (.int .i64 (Lib.compareInt x y)) ∧ w' = w := Any.cmp_Compare_int cmpLays x y w
end Go.Proofs.YtmejneobfkbgeaaDoor

namespace Go.Proofs.YtmejneobfkbgeaaDoor
open Go Go.RowKit Go.Shelf

theorem lt_bitLen (n : Nat) (h : n < 2 ^ 64) : n < 2 ^ Lib.bitLen n := by
  induction n using Nat.strongRecOn with
  | ind n ih =>
    by_cases e : n = 0
    · subst e; decide
    · rw [Lib.bitLen_half n e h, Nat.add_comm, Nat.pow_succ]
      have := ih (n / 2) (by omega) (by omega)
      omega
theorem bitLen_le (k : Nat) : ∀ n : Nat, n < 2 ^ k → k ≤ 64 → Lib.bitLen n ≤ k := by
  induction k with
  | zero => intro n h _; rw [show n = 0 by omega]; decide
  | succ k ih =>
    intro n h hk
    by_cases e : n = 0
    · subst e; exact Nat.zero_le _
    · rw [Lib.bitLen_half n e (Nat.lt_of_lt_of_le h (Nat.pow_le_pow_right (by omega) hk))]
      have := ih (n / 2) (by rw [Nat.pow_succ] at h; omega) (by omega)
      omega

/-- The world behind a box and a result's cell. -/
def boxes1 (w : World) (u : Value) : World := (w.alloc (.cells #[u] 24)).alloc (.cells #[.slice none 0 0] 24)
theorem boxes1_size (w : World) (u : Value) : (boxes1 w u).heap.size = w.heap.size + 2 := by simp [boxes1]
theorem boxes1_below (w : World) (u : Value) : Below w.heap.size w (boxes1 w u) := ((Below.refl _ w).alloc (Nat.le_refl _) _).alloc (by simp) _
theorem boxes1_cells (w : World) (u : Value) : (boxes1 w u).cell? ⟨w.heap.size, 0, none⟩ = some u ∧ (boxes1 w u).cell? ⟨w.heap.size + 1, 0, none⟩ = some (.slice none 0 0) ∧ (boxes1 w u).frozen? ⟨w.heap.size + 1, 0, none⟩ = false := by
  have h0 := cell_new w u 24
  have h1 := cell_of_new (w.alloc (.cells #[u] 24)) (.slice none 0 0) 24
  simp only [World.size_alloc] at h1
  exact ⟨cell_later _ h0, h1.1, h1.2⟩

/-- A store into a cell that holds a slice leaves numbers as they are. -/
theorem Row.store {w : World} {a : Option Addr} {zs : List Int} {cap : Nat} (h : Row w a zs cap) {p : Addr} {s : Option Addr} {n c : Nat} (hp : w.cell? p = some (.slice s n c)) (u : Value) : Row (w.setCell p u) a zs cap :=
  ⟨h.room, h.most, fun j hj => by
    obtain ⟨b, off, e, hc⟩ := h.el j hj
    exact ⟨b, off, e, (World.cell?_setCell_other _ _ _ _ (by rintro rfl; rw [hp] at hc; cases hc)).trans hc⟩⟩

theorem pow_step {n L k : Nat} (h : k < L) : n / 2 ^ (L - (k + 1)) = 2 * (n / 2 ^ (L - k)) + n / 2 ^ (L - (k + 1)) % 2 := by
  have e : L - k = (L - (k + 1)) + 1 := by omega
  rw [e, Nat.pow_succ, ← Nat.div_div_eq_div_mul]; omega
theorem pow_sq (x m : Nat) : x ^ m * x ^ m = x ^ (2 * m) := by rw [← Nat.pow_add]; congr 1; omega
theorem pow_long {x m n : Nat} (h : m ≤ n) (hl : ¬ (M.dig (x ^ m)).length ≤ 200) : ¬ (M.dig (x ^ n)).length ≤ 200 := by
  rw [M.dig_len_le] at hl ⊢
  have : x ^ m ≤ x ^ n := by
    rcases Nat.eq_zero_or_pos x with h0 | h0
    · subst h0
      exfalso
      apply hl
      rcases Nat.eq_zero_or_pos m with h1 | h1
      · subst h1; exact Nat.one_lt_pow (by omega) (by omega)
      · rw [Nat.zero_pow h1]; exact Nat.pow_pos (by omega)
    · exact Nat.pow_le_pow_right h0 h
  omega

theorem mask1 (x : Int) : bits BinOp.and IntKind.i64 x 1 = x % 2 := by
  show IntKind.i64.wrap ((BitVec.ofInt 64 x &&& BitVec.ofInt 64 1).toNat : Int) = _
  have h1 := toNat_ofInt64 x
  have h2 : (BitVec.ofInt 64 1).toNat = 2 ^ 1 - 1 := by decide
  rw [BitVec.toNat_and, h2, Nat.and_two_pow_sub_one_eq_mod, IntKind.wrap_i64]
  omega
theorem shr_n {n L k m2 : Nat} (h : m2 = n / 2 ^ (L - (k + 1))) : (n : Int) / 2 ^ (L - 1 - k) = (m2 : Int) := by
  rw [h, show L - (k + 1) = L - 1 - k by omega, Int.natCast_ediv, Int.natCast_pow]; rfl

/-- What holds in Power's loop. -/
def PwRel (_w wA : World) (x n L P : Nat) (i : Value) (W : World) : Prop :=
  ∃ (k : Nat) (a : Option Addr) (cap : Nat), i = .int .i64 (k : Int) ∧ k ≤ L ∧ W.cell? ⟨P, 0, none⟩ = some (.slice a (M.dig (x ^ (n / 2 ^ (L - k)))).length cap) ∧ W.frozen? ⟨P, 0, none⟩ = false ∧ Row W a (M.dig (x ^ (n / 2 ^ (L - k)))) cap ∧ (M.dig (x ^ (n / 2 ^ (L - k)))).length ≤ 200 ∧ P < W.heap.size ∧ Below P wA W

attribute [local go_sem] mask1
set_option maxRecDepth 100000 in
set_option maxHeartbeats 2000000 in
theorem power_any (a : Option Addr) (cap x n : Nat) (w : World) (hx : (M.dig x).length ≤ 200) (hn : n ≤ 4800) (hR : Row w a (M.dig x) cap) :
    Calls Tryd.prog 73 #[.agg #[.slice a (M.dig x).length cap], .int .i64 (n : Int)] w fun e W' => NatRes (x ^ n) e W' ∧ Below w.heap.size w W' := by
  have Hv := Lib.hid (vld_dig hx)
  have hB2 := boxes1_below w (.slice a (M.dig x).length cap)
  have hs2 := boxes1_size w (.slice a (M.dig x).length cap)
  have HC := Lib.hid (boxes1_cells w (.slice a (M.dig x).length cap))
  have HR := Lib.hid (hR.below hB2)
  have HB2 := Lib.hid hB2
  have HS2 := Lib.hid hs2
  have hra := hR.room
  have hma := hR.most
  have HL := Lib.hid (lt_bitLen n (by omega))
  have HLL := Lib.hid (bitLen_le 13 n (by omega) (by omega))
  have hlen := bitsLen_any (n : Int)
  clear hR hB2 hs2
  rw [Int.toNat_natCast] at hlen
  generalize Lib.bitLen n = L at *
  have HLEN := Lib.hid hlen
  clear hlen
  have d1 : decide ((n : Int) < 0) = false := by simp
  have d2 : decide ((4800 : Int) < (n : Int)) = false := by simp; omega
  go_enter Tryd.func73, Tryd.ntmps73
  go_wp2_with fail
  generalize hw2 : ((w.alloc (.cells #[.slice a (M.dig x).length cap] 24)).alloc (.cells #[.slice none 0 0] 24)) = w2
  obtain rfl : boxes1 w (.slice a (M.dig x).length cap) = w2 := hw2
  generalize boxes1 w (.slice a (M.dig x).length cap) = w2 at *
  refine (valid_yes a _ cap _ HR.out Hv.out).mono ?_
  rintro e w3 ⟨rfl, hb3⟩
  have hs3 := hb3.size
  have HB3 := Lib.hid hb3
  clear hb3
  go_wp2_with (go_at_call 80; refine (HLEN.out _ (by omega) (by omega)).mono ?_; rintro e w' ⟨rfl, rfl⟩)
  have hown1 := own_one w3 w3.heap.size (Nat.le_refl _)
  have hcP := cell_of_new (w3.alloc (.cells #[.int .i64 1] 3)) (.slice (some ⟨w3.heap.size, 0, none⟩) 1 1) 24
  simp only [World.size_alloc] at hcP
  have hrow1 := (hown1.alloc (.cells #[.slice (some ⟨w3.heap.size, 0, none⟩) 1 1] 24))
  have hwA : ((w3.alloc (.cells #[.int .i64 1] 3)).alloc (.cells #[.slice (some ⟨w3.heap.size, 0, none⟩) 1 1] 24)).heap.size = w3.heap.size + 2 := by simp
  have hBA : Below w3.heap.size w3 ((w3.alloc (.cells #[.int .i64 1] 3)).alloc (.cells #[.slice (some ⟨w3.heap.size, 0, none⟩) 1 1] 24)) := ((Below.refl _ w3).alloc (Nat.le_refl _) _).alloc (by simp) _
  generalize ((w3.alloc (.cells #[.int .i64 1] 3)).alloc (.cells #[.slice (some ⟨w3.heap.size, 0, none⟩) 1 1] 24)) = wA at *
  have h0L : n / 2 ^ (L - 0) = 0 := Nat.div_eq_of_lt HL.out
  go_loopw [27] (fun i wr => PwRel w wA x n L (w3.heap.size + 1) i wr) (fun i _ => L - (intOf i).toNat)
  case atStart =>
    refine ⟨0, some ⟨w3.heap.size, 0, none⟩, 1, rfl, Nat.zero_le _, ?_, hcP.2, ?_, ?_, by omega, Below.refl _ _⟩
    · rw [h0L, Nat.pow_zero, dig_one]; exact hcP.1
    · rw [h0L, Nat.pow_zero, dig_one]; exact Own.rowAt (B := w3.heap.size) hrow1
    · rw [h0L, Nat.pow_zero, dig_one]; simp
  case round =>
    obtain ⟨k, a1, cap1, rfl, hk, hcp, hfp, hr1, hl1, hP, hbW⟩ := hrel
    have hN3 : w.heap.size + 1 < w3.heap.size := by have := HS2.out; omega
    have c2 := (hbW.cell (p := ⟨w.heap.size, 0, none⟩) (by simp; omega)).trans ((hBA.cell (p := ⟨w.heap.size, 0, none⟩) (by simp; omega)).trans ((HB3.out.cell (p := ⟨w.heap.size, 0, none⟩) (lt_of_cell HC.out.1)).trans HC.out.1))
    have c4 := (hbW.cell (p := ⟨w.heap.size + 1, 0, none⟩) (by simp; omega)).trans ((hBA.cell (p := ⟨w.heap.size + 1, 0, none⟩) (by simp; omega)).trans ((HB3.out.cell (p := ⟨w.heap.size + 1, 0, none⟩) (lt_of_cell HC.out.2.1)).trans HC.out.2.1))
    have f4 := (hbW.frozen (p := ⟨w.heap.size + 1, 0, none⟩) (by simp; omega)).trans ((hBA.frozen (p := ⟨w.heap.size + 1, 0, none⟩) (by simp; omega)).trans ((HB3.out.frozen (p := ⟨w.heap.size + 1, 0, none⟩) (lt_of_cell HC.out.2.1)).trans HC.out.2.2))
    have HBW := Lib.hid hbW
    have HR1 := Lib.hid hr1
    clear hbW hr1
    by_cases hlt : k < L
    · have hst := pow_step (n := n) hlt
      have hle := Nat.div_le_self n (2 ^ (L - (k + 1)))
      obtain ⟨m, hm⟩ : ∃ m, m = n / 2 ^ (L - k) := ⟨_, rfl⟩
      rw [← hm] at hst hcp hl1
      have HR1' := Lib.hid (show Row wr a1 (M.dig (x ^ m)) cap1 from by rw [hm]; exact HR1.out)
      have hmul := mul_any a1 a1 cap1 cap1 (x ^ m) (x ^ m) wr hl1 hl1 HR1'.out HR1'.out
      rw [pow_sq] at hmul
      have HM := Lib.hid hmul
      have HST := Lib.hid hst
      have hmn : 2 * m ≤ n := by omega
      obtain ⟨m2, hm2⟩ : ∃ m2, m2 = n / 2 ^ (L - (k + 1)) := ⟨_, rfl⟩
      have HM2 := Lib.hid hm2
      have HSH := Lib.hid (shr_n hm2)
      clear hmul hst hm HR1 hm2 hle
      go_wp2_with fail
      refine HM.out.mono ?_
      rintro e w5 ⟨hres, hb5⟩
      have c2' := (hb5.cell (p := ⟨w.heap.size, 0, none⟩) (lt_of_cell c2)).trans c2
      have c4' := (hb5.cell (p := ⟨w.heap.size + 1, 0, none⟩) (lt_of_cell c4)).trans c4
      have f4' := (hb5.frozen (p := ⟨w.heap.size + 1, 0, none⟩) (lt_of_cell c4)).trans f4
      have cp' := (hb5.cell (p := ⟨w3.heap.size + 1, 0, none⟩) (lt_of_cell hcp)).trans hcp
      have fp' := (hb5.frozen (p := ⟨w3.heap.size + 1, 0, none⟩) (lt_of_cell hcp)).trans hfp
      have HB5 := Lib.hid hb5
      clear hb5 c2 c4 f4 hcp hfp HM
      by_cases hlong : (M.dig (x ^ (2 * m))).length ≤ 200
      · obtain ⟨v, rfl, a5, cap5, rfl, hr5⟩ := hres.ok hlong
        have HR5 := Lib.hid hr5
        clear hr5 hres
        have hL13 := HLL.out
        have hb2 : m2 = 2 * m + m2 % 2 := by have := HST.out; rw [← HM2.out] at this; exact this
        by_cases hbit : m2 % 2 = 0
        · have hbt : ((n : Int) / 2 ^ (L - 1 - k) % 2 == 0) = true := by rw [HSH.out, beq_iff_eq]; omega
          have HE := Lib.hid (show m2 = 2 * m by omega)
          clear hb2 hbit
          go_wp2_with fail
          go_roundw
          case rel =>
            refine ⟨k + 1, a5, cap5, by go_num, by omega, ?_, ?_, ?_, ?_, ?_, ?_⟩
            · rw [← HM2.out, HE.out]; exact World.cell?_setCell_same' _ _ _ (by rw [cp']; rfl)
            · rw [World.frozen?_setCell]; exact fp'
            · rw [← HM2.out, HE.out]; exact HR5.out.store cp' _
            · rw [← HM2.out, HE.out]; exact hlong
            · simp [World.setCell]; have := lt_of_cell cp'; simpa using this
            · exact (HBW.out.trans (HB5.out.mono (by omega))).setCell (p := ⟨w3.heap.size + 1, 0, none⟩) (Nat.le_refl _) _
          case measure => simp [intOf]; omega
        · have hbt : ((n : Int) / 2 ^ (L - 1 - k) % 2 == 0) = false := by rw [HSH.out, beq_eq_false_iff_ne]; omega
          have HE := Lib.hid (show m2 = 2 * m + 1 by omega)
          have hm2n : m2 ≤ n := by rw [HM2.out]; exact Nat.div_le_self _ _
          clear hb2 hbit
          have HRX := Lib.hid ((HR.out.below HB3.out).below (hBA.trans ((HBW.out.trans (HB5.out.mono (by omega))).mono (by omega))))
          have hmul2 := mul_any a5 a cap5 cap (x ^ (2 * m)) x (w5.setCell ⟨w3.heap.size + 1, 0, none⟩ (.slice a5 (M.dig (x ^ (2 * m))).length cap5)) hlong hx (HR5.out.store cp' _) (HRX.out.store cp' _)
          rw [show x ^ (2 * m) * x = x ^ m2 from by rw [HE.out, Nat.pow_succ]] at hmul2
          have HM2' := Lib.hid hmul2
          clear hmul2
          have hs6 : (w5.setCell ⟨w3.heap.size + 1, 0, none⟩ (.slice a5 (M.dig (x ^ (2 * m))).length cap5)).heap.size = w5.heap.size := by simp [World.setCell]
          have b2 := (cell_other (W := w5) (p := ⟨w3.heap.size + 1, 0, none⟩) (a := ⟨w.heap.size, 0, none⟩) (.slice a5 (M.dig (x ^ (2 * m))).length cap5) (by simp; omega)).trans c2'
          have b4 := (cell_other (W := w5) (p := ⟨w3.heap.size + 1, 0, none⟩) (a := ⟨w.heap.size + 1, 0, none⟩) (.slice a5 (M.dig (x ^ (2 * m))).length cap5) (by simp; omega)).trans c4'
          have g4 := (World.frozen?_setCell w5 ⟨w3.heap.size + 1, 0, none⟩ ⟨w.heap.size + 1, 0, none⟩ (.slice a5 (M.dig (x ^ (2 * m))).length cap5)).trans f4'
          have bP := World.cell?_setCell_same' w5 ⟨w3.heap.size + 1, 0, none⟩ (.slice a5 (M.dig (x ^ (2 * m))).length cap5) (by rw [cp']; rfl)
          have gP := (World.frozen?_setCell w5 ⟨w3.heap.size + 1, 0, none⟩ ⟨w3.heap.size + 1, 0, none⟩ (.slice a5 (M.dig (x ^ (2 * m))).length cap5)).trans fp'
          have HB6 := Lib.hid ((HBW.out.trans (HB5.out.mono (by omega))).setCell (p := ⟨w3.heap.size + 1, 0, none⟩) (Nat.le_refl _) (.slice a5 (M.dig (x ^ (2 * m))).length cap5))
          go_wp2_with fail
          clear c2' c4' f4' cp' fp'
          generalize (w5.setCell ⟨w3.heap.size + 1, 0, none⟩ (.slice a5 (M.dig (x ^ (2 * m))).length cap5)) = w6 at *
          refine HM2'.out.mono ?_
          rintro e w7 ⟨hres, hb7⟩
          have e2 := (hb7.cell (p := ⟨w.heap.size, 0, none⟩) (lt_of_cell b2)).trans b2
          have e4 := (hb7.cell (p := ⟨w.heap.size + 1, 0, none⟩) (lt_of_cell b4)).trans b4
          have k4 := (hb7.frozen (p := ⟨w.heap.size + 1, 0, none⟩) (lt_of_cell b4)).trans g4
          have eP := (hb7.cell (p := ⟨w3.heap.size + 1, 0, none⟩) (lt_of_cell bP)).trans bP
          have kP := (hb7.frozen (p := ⟨w3.heap.size + 1, 0, none⟩) (lt_of_cell bP)).trans gP
          have HB7 := Lib.hid (HB6.out.trans (hb7.mono (Nat.le_of_lt (lt_of_cell bP))))
          clear hb7 b2 b4 g4 bP gP HM2'
          by_cases hl7 : (M.dig (x ^ m2)).length ≤ 200
          · obtain ⟨v, rfl, a7, cap7, rfl, hr7⟩ := hres.ok hl7
            have HR7 := Lib.hid hr7
            clear hr7 hres
            go_wp2_with fail
            go_roundw
            case rel =>
              refine ⟨k + 1, a7, cap7, by go_num, by omega, ?_, ?_, ?_, ?_, ?_, ?_⟩
              · rw [← HM2.out]; exact World.cell?_setCell_same' _ _ _ (by rw [eP]; rfl)
              · rw [World.frozen?_setCell]; exact kP
              · rw [← HM2.out]; exact HR7.out.store eP _
              · rw [← HM2.out]; exact hl7
              · simp [World.setCell]; have := lt_of_cell eP; simpa using this
              · exact HB7.out.setCell (p := ⟨w3.heap.size + 1, 0, none⟩) (Nat.le_refl _) _
            case measure => simp [intOf]; omega
          · obtain rfl := hres.limit hl7
            have HLO := Lib.hid (pow_long hm2n hl7)
            clear hres
            go_wp2_with fail
            have m4 := (cell_other (W := w7) (p := ⟨w3.heap.size + 1, 0, none⟩) (a := ⟨w.heap.size + 1, 0, none⟩) (.slice none 0 0) (by simp; omega)).trans e4
            refine bodyPost_ret (v := .tuple #[.agg #[.slice none 0 0], .int .i64 3]) (by simp [results, Tryd.results73, go_sem, m4]) rfl ⟨natRes_limit HLO.out, ?_⟩
            exact ((((HB2.out.trans (HB3.out.mono HB2.out.size)).trans (hBA.mono (by omega))).trans (HB7.out.mono (by omega))).setCell (p := ⟨w3.heap.size + 1, 0, none⟩) (by simp; omega) _).setCell (p := ⟨w.heap.size + 1, 0, none⟩) (by simp) _
      · obtain rfl := hres.limit hlong
        have HLO := Lib.hid (pow_long hmn hlong)
        clear hres
        go_wp2_with fail
        have m4 := (cell_other (W := w5) (p := ⟨w3.heap.size + 1, 0, none⟩) (a := ⟨w.heap.size + 1, 0, none⟩) (.slice none 0 0) (by simp; omega)).trans c4'
        refine bodyPost_ret (v := .tuple #[.agg #[.slice none 0 0], .int .i64 3]) (by simp [results, Tryd.results73, go_sem, m4]) rfl ⟨natRes_limit HLO.out, ?_⟩
        exact ((((HB2.out.trans (HB3.out.mono HB2.out.size)).trans (hBA.mono (by omega))).trans ((HBW.out.trans (HB5.out.mono (by omega))).mono (by omega))).setCell (p := ⟨w3.heap.size + 1, 0, none⟩) (by simp; omega) _).setCell (p := ⟨w.heap.size + 1, 0, none⟩) (by simp) _
    · have hkL : k = L := by omega
      have e0 : n / 2 ^ (L - k) = n := by rw [hkL, Nat.sub_self, Nat.pow_zero, Nat.div_one]
      rw [e0] at hcp hl1
      have hr1 := HR1.out
      rw [e0] at hr1
      have HRE := Lib.hid hr1
      clear HR1 hr1 e0 hkL
      go_wp2_with fail
      refine bodyPost_ret (v := .tuple #[.agg #[.slice a1 (M.dig (x ^ n)).length cap1], .int .i64 0]) (by simp [results, Tryd.results73, go_sem, c4]) rfl ⟨natRes_ok hl1 ⟨a1, cap1, rfl, HRE.out.store c4 _⟩, ?_⟩
      exact (((HB2.out.trans (HB3.out.mono HB2.out.size)).trans (hBA.mono (by omega))).trans (HBW.out.mono (by omega))).setCell (p := ⟨w.heap.size + 1, 0, none⟩) (by simp) _

/-- **nat.Power** of a number. -/
theorem power_num {u : Value} {x n : Nat} {w : World} (hx : (M.dig x).length ≤ 200) (hn : n ≤ 4800) (hu : Num w u x) :
    Calls Tryd.prog 73 #[u, .int .i64 (n : Int)] w fun e W' => NatRes (x ^ n) e W' ∧ Below w.heap.size w W' := by
  obtain ⟨a, cap, rfl, hr⟩ := hu
  exact power_any a cap x n w hx hn hr
end Go.Proofs.YtmejneobfkbgeaaDoor

namespace Go.Proofs.YtmejneobfkbgeaaDoor
open Go Go.RowKit Go.Shelf

/-- The world behind two boxes. -/
def boxes2 (w : World) (u v : Value) : World := (w.alloc (.cells #[u] 24)).alloc (.cells #[v] 24)
theorem boxes2_size (w : World) (u v : Value) : (boxes2 w u v).heap.size = w.heap.size + 2 := by simp [boxes2]
theorem boxes2_below (w : World) (u v : Value) : Below w.heap.size w (boxes2 w u v) := ((Below.refl _ w).alloc (Nat.le_refl _) _).alloc (by simp) _
theorem boxes2_cells (w : World) (u v : Value) : (boxes2 w u v).cell? ⟨w.heap.size, 0, none⟩ = some u ∧ (boxes2 w u v).cell? ⟨w.heap.size + 1, 0, none⟩ = some v := by
  have h0 := cell_new w u 24
  have h1 := cell_new (w.alloc (.cells #[u] 24)) v 24
  simp only [World.size_alloc] at h1
  exact ⟨cell_later _ h0, h1⟩

set_option maxRecDepth 100000 in
set_option maxHeartbeats 1000000 in
/-- **ref01.Same** at equal limbs. -/
theorem same_any (a b : Option Addr) (zs : List Int) (ca cb : Nat) (w : World) (ha : Row w a zs ca) (hb : Row w b zs cb) :
    Calls Tryd.prog 8 #[.agg #[.slice a zs.length ca], .agg #[.slice b zs.length cb]] w fun e W' => e = .returned (.bool true) ∧ Below w.heap.size w W' := by
  have hB := boxes2_below w (.slice a zs.length ca) (.slice b zs.length cb)
  have HC := Lib.hid (boxes2_cells w (.slice a zs.length ca) (.slice b zs.length cb))
  have HA := Lib.hid (ha.below hB)
  have HB := Lib.hid (hb.below hB)
  have HBB := Lib.hid hB
  have hra := ha.room
  have hrb := hb.room
  have hma := ha.most
  have hmb := hb.most
  clear ha hb hB
  go_enter Tryd.func8, Tryd.ntmps8
  go_wp2_with fail
  generalize hw2 : ((w.alloc (.cells #[.slice a zs.length ca] 24)).alloc (.cells #[.slice b zs.length cb] 24)) = w2
  obtain rfl : boxes2 w (.slice a zs.length ca) (.slice b zs.length cb) = w2 := hw2
  generalize boxes2 w (.slice a zs.length ca) (.slice b zs.length cb) = w2 at *
  go_loopw [5] (fun i wr => ∃ k : Nat, i = .int .i64 (k : Int) ∧ k ≤ zs.length ∧ Below w2.heap.size w2 wr) (fun i _ => zs.length - (intOf i).toNat)
  case atStart => exact ⟨0, rfl, Nat.zero_le _, Below.refl _ _⟩
  case round =>
    obtain ⟨k, rfl, hk, hbw⟩ := hrel
    have c0 : wr.cell? ⟨w.heap.size, 0, none⟩ = some (.slice a zs.length ca) := (hbw.cell (p := ⟨w.heap.size, 0, none⟩) (lt_of_cell HC.out.1)).trans HC.out.1
    have c1 : wr.cell? ⟨w.heap.size + 1, 0, none⟩ = some (.slice b zs.length cb) := (hbw.cell (p := ⟨w.heap.size + 1, 0, none⟩) (lt_of_cell HC.out.2)).trans HC.out.2
    have HBW := Lib.hid hbw
    clear hbw
    by_cases hlt : k < zs.length
    · obtain ⟨b1, o1, rfl, h1⟩ := (HA.out.below HBW.out).el k hlt
      obtain ⟨b2, o2, rfl, h2⟩ := (HB.out.below HBW.out).el k hlt
      go_wp2_with fail
      go_quiet (fail)
      go_wp2
      go_roundw
      case rel => exact ⟨k + 1, by go_num, by omega, belowN HBW.out _⟩
      case measure => simp [intOf]; omega
    · go_wp2_with fail
      go_ret
      exact ⟨rfl, HBB.out.trans (HBW.out.mono HBB.out.size)⟩

/-- **ref01.Same** of one number twice. -/
theorem same_num {u v : Value} {n : Nat} {w : World} (hu : Num w u n) (hv : Num w v n) :
    Calls Tryd.prog 8 #[u, v] w fun e W' => e = .returned (.bool true) ∧ Below w.heap.size w W' := by
  obtain ⟨a, ca, rfl, ha⟩ := hu
  obtain ⟨b, cb, rfl, hb⟩ := hv
  exact same_any a b (M.dig n) ca cb w ha hb

theorem tmod_neg {n : Int} {m : Nat} (hm : 0 < m) (h : n.tmod (m : Int) < 0) : n.tmod (m : Int) + (m : Int) = n % (m : Int) := by
  rw [Int.tmod_eq_emod] at h ⊢
  split at h
  · have := Int.emod_nonneg n (b := (m : Int)) (by omega); omega
  · rename_i hh; rw [if_neg hh]; simp
theorem tmod_pos {n : Int} {m : Nat} (hm : 0 < m) (h : 0 ≤ n.tmod (m : Int)) : n.tmod (m : Int) = n % (m : Int) := by
  rw [Int.tmod_eq_emod] at h ⊢
  split at h
  · rename_i hh; rw [if_pos hh]; simp
  · have := Int.emod_lt_of_pos n (b := (m : Int)) (by omega); simp at h; omega

set_option maxHeartbeats 400000 in
/-- **made.Mod** -/
theorem mod_any (n : Int) (m : Nat) (w : World) (hm : 0 < m) (hm2 : m ≤ 4611686018427387904) :
    Calls Tryd.prog 6 #[.int .i64 n, .int .i64 (m : Int)] w fun e W' => e = .returned (.int .i64 (n % (m : Int))) ∧ W' = w := by
  go_enter Tryd.func6, Tryd.ntmps6
  go_wp2
  · have h : n.tmod (m : Int) < 0 := by assumption
    go_ret
    refine ⟨?_, rfl⟩
    have e := tmod_neg hm h
    have h1 := Int.emod_nonneg n (b := (m : Int)) (by omega)
    have h2 := Int.emod_lt_of_pos n (b := (m : Int)) (by omega)
    rw [← e] at h1 h2
    have h3 : wrap64 (n.tmod (m : Int) + (m : Int)) = n.tmod (m : Int) + (m : Int) := IntWalk.wrap64_in _ ⟨by omega, by omega⟩
    first
      | (rw [← e]; rfl)
      | (show Ending.returned (.int .i64 (wrap64 _)) = _; rw [h3, e])
  · have h : 0 ≤ n.tmod (m : Int) := by assumption
    go_ret
    refine ⟨?_, rfl⟩
    have e := tmod_pos hm h
    show Ending.returned (.int .i64 _) = _
    rw [e]
end Go.Proofs.YtmejneobfkbgeaaDoor
