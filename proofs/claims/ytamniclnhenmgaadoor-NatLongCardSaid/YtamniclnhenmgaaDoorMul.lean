/- nat.Mul. -/
import Derived.Test.YtamniclnhenmgaaDoorAdd
namespace Go.Proofs.YtamniclnhenmgaaDoor
open Go Go.RowKit Go.Shelf
attribute [local go_sem] mask24

def MulRel (w w3 : World) (g x y : Nat) (i : Value) (W : World) : Prop :=
  ∃ (k : Nat) (zs : List Int), i = .int .i64 (k : Int) ∧ k ≤ (M.dig x).length ∧ zs.length = (M.dig x).length + (M.dig y).length ∧ M.Lim zs ∧ (∀ m : Nat, k + (M.dig y).length ≤ m → M.el zs m = 0) ∧
    M.val zs = M.val ((M.dig x).take k) * y ∧ Own W (w.heap.size + 3) (.slice (some ⟨g, 0, none⟩) zs.length zs.length) zs ∧ Below (w.heap.size + 3) w3 W

def MulIn (w w3 : World) (g x y k : Nat) (c i : Value) (W : World) : Prop :=
  ∃ (j : Nat) (zs : List Int) (q : Int), i = .int .i64 (j : Int) ∧ c = .int .i64 q ∧ j ≤ (M.dig y).length ∧ zs.length = (M.dig x).length + (M.dig y).length ∧ M.Lim zs ∧ (∀ m : Nat, k + (M.dig y).length ≤ m → M.el zs m = 0) ∧ 0 ≤ q ∧ q < 16777216 ∧
    M.val zs + 16777216 ^ (k + j) * q = M.val ((M.dig x).take k) * y + 16777216 ^ k * (M.el (M.dig x) k * M.val ((M.dig y).take j)) ∧ Own W (w.heap.size + 3) (.slice (some ⟨g, 0, none⟩) zs.length zs.length) zs ∧ Below (w.heap.size + 3) w3 W

set_option maxRecDepth 100000 in
set_option maxHeartbeats 2000000 in
theorem mul_any (a b : Option Addr) (ca cb x y : Nat) (w : World) (hx : (M.dig x).length ≤ 200) (hy : (M.dig y).length ≤ 200) (ha : Row w a (M.dig x) ca) (hb : Row w b (M.dig y) cb) :
    Calls Tryd.prog 28 #[.agg #[.slice a (M.dig x).length ca], .agg #[.slice b (M.dig y).length cb]] w fun e W' => NatRes (x * y) e W' ∧ Below w.heap.size w W' := by
  have Hvx := Lib.hid (vld_dig hx)
  have Hvy := Lib.hid (vld_dig hy)
  have hB3 := boxes_below w (.slice a (M.dig x).length ca) (.slice b (M.dig y).length cb)
  have hsz := boxes_size w (.slice a (M.dig x).length ca) (.slice b (M.dig y).length cb)
  have HA := Lib.hid (ha.below hB3)
  have HB := Lib.hid (hb.below hB3)
  have HC := Lib.hid (boxes_cells w (.slice a (M.dig x).length ca) (.slice b (M.dig y).length cb))
  have HB3 := Lib.hid hB3
  have HSZ := Lib.hid hsz
  have hla : (M.dig x).length ≤ ca := ha.room
  have hlb : (M.dig y).length ≤ cb := hb.room
  have hma := ha.most
  have hmb := hb.most
  clear ha hb hB3 hsz
  go_enter Tryd.func28, Tryd.ntmps28
  go_wp2_with fail
  generalize hw3 : (((w.alloc (.cells #[.slice a (M.dig x).length ca] 24)).alloc (.cells #[.slice b (M.dig y).length cb] 24)).alloc (.cells #[.slice none 0 0] 24)) = w3
  obtain rfl : boxes w (.slice a (M.dig x).length ca) (.slice b (M.dig y).length cb) = w3 := hw3
  generalize boxes w (.slice a (M.dig x).length ca) (.slice b (M.dig y).length cb) = w3 at *
  refine (valid_yes a _ ca _ HA.out Hvx.out).mono ?_
  rintro e w4 ⟨rfl, hb4⟩
  have hsz4 := hb4.size
  have c1 := (hb4.cell (p := ⟨w.heap.size + 1, 0, none⟩) (by rw [HSZ.out]; simp)).trans HC.out.2.1
  go_wp2_with fail
  refine (valid_yes b _ cb _ (HB.out.below hb4) Hvy.out).mono ?_
  rintro e w5 ⟨rfl, hb5⟩
  have hsz5 := hb5.size
  have c0 := (hb5.cell (p := ⟨w.heap.size, 0, none⟩) (by have := HSZ.out; simp; omega)).trans ((hb4.cell (p := ⟨w.heap.size, 0, none⟩) (by rw [HSZ.out]; simp)).trans HC.out.1)
  replace c1 := (hb5.cell (p := ⟨w.heap.size + 1, 0, none⟩) (by have := HSZ.out; simp; omega)).trans c1
  have HD : Hid (w.heap.size + 3 ≤ w5.heap.size ∧ Below w3.heap.size w3 w5) := ⟨by have := HSZ.out; omega, hb4.trans (hb5.mono hb4.size)⟩
  clear hb4 hb5 hsz4 hsz5
  have hn3 := HSZ.out
  have hn5 := HD.out.2.size
  have HN3 := Lib.hid hn3
  clear hn3
  have hs5 : w.heap.size + 1 < w5.heap.size := by have := HD.out.1; omega
  go_wp2_with (at_make; refine wpList_make1 rfl _ _ rfl ((M.dig x).length + (M.dig y).length) rfl rfl (by omega) (by omega) HD.out.1 ?_; intro w6 hown6 hb6; have e0 := (hb6.cell (p := ⟨w.heap.size, 0, none⟩) (by simp)).trans c0; have e1 := (hb6.cell (p := ⟨w.heap.size + 1, 0, none⟩) (by simp)).trans c1)
  clear c0 c1
  generalize w5.heap.size = g at *
  replace HD : Hid (Below (w.heap.size + 3) w3 w6) := (HD.out.2.mono (by rw [HSZ.out]; exact Nat.le_refl _)).trans hb6
  clear hb6 e0 e1 hn5 hs5
  have hlx : (M.dig x).length ≤ 200 := hx
  go_loopw [32] (fun i wr => MulRel w w3 g x y i wr) (fun i _ => (M.dig x).length - (intOf i).toNat)
  case atStart => exact ⟨0, _, rfl, Nat.zero_le _, List.length_replicate, M.Lim.replicate _, fun m _ => M.el_replicate _ _, by simp [M.val_replicate, M.val], by simpa using hown6, HD.out⟩
  case round =>
    obtain ⟨k, zs, rfl, hk, hlen, hlim, hz, hval, hown, hbW⟩ := hrel
    clear hown6 HD
    obtain ⟨wo, hwo⟩ : ∃ wo : World, wo = wr := ⟨_, rfl⟩
    have c0 := (hbW.cell (p := ⟨w.heap.size, 0, none⟩) (by simp)).trans HC.out.1
    have c1 := (hbW.cell (p := ⟨w.heap.size + 1, 0, none⟩) (by simp)).trans HC.out.2.1
    have c2 := (hbW.cell (p := ⟨w.heap.size + 1 + 1, 0, none⟩) (by simp)).trans HC.out.2.2.1
    have f2 := (hbW.frozen (p := ⟨w.heap.size + 1 + 1, 0, none⟩) (by simp)).trans HC.out.2.2.2
    have HRA := Lib.hid (show Row wr a (M.dig x) ca from HA.out.below (hbW.mono (by rw [HSZ.out]; exact Nat.le_refl _)))
    subst hwo
    have HBW := Lib.hid hbW
    have HVAL := Lib.hid hval
    have HLN := Lib.hid hlen
    have HLIM := Lib.hid hlim
    have HZ := Lib.hid hz
    have HOWN := Lib.hid hown
    clear hval hlen hlim hown hz hbW
    by_cases hlt : k < (M.dig x).length
    · have hax := (M.lim_dig x).get k
      obtain ⟨b1, o1, rfl, hca⟩ := HRA.out.el k hlt
      go_wp2
      go_loopw [9, 40] (fun c i wr => MulIn w w3 g x y k c i wr) (fun _ i _ => (M.dig y).length - (intOf i).toNat)
      case atStart => exact ⟨0, zs, 0, rfl, rfl, Nat.zero_le _, HLN.out, HLIM.out, HZ.out, by omega, by omega, by rw [HVAL.out]; simp [M.val], HOWN.out, HBW.out⟩
      case round =>
        clear c0 c1 c2 f2 hca
        obtain ⟨j, zs, q, rfl, rfl, hj, hlen, hlim, hz, hq0, hq1, hval, hown, hbW⟩ := hrel
        have c1 := (hbW.cell (p := ⟨w.heap.size + 1, 0, none⟩) (by simp)).trans HC.out.2.1
        have HRB := Lib.hid (show Row wr b (M.dig y) cb from HB.out.below (hbW.mono (by rw [HSZ.out]; exact Nat.le_refl _)))
        clear HBW HVAL HLN HLIM HZ HOWN HRA
        have HBW := Lib.hid hbW
        have HVAL := Lib.hid hval
        have HLN := Lib.hid hlen
        have HLIM := Lib.hid hlim
        have HZ := Lib.hid hz
        have HOWN := Lib.hid hown
        clear hval hlen hlim hown hz hbW
        by_cases hlj : j < (M.dig y).length
        · have hby := (M.lim_dig y).get j
          have hmb := M.mul_bound hax hby
          have hez := HLIM.out.get (k + j)
          obtain ⟨b2, o2, rfl, hcb⟩ := HRB.out.el j hlj
          obtain ⟨hgB, hcz, hfz⟩ := HOWN.out.at (k + j) (by rw [HLN.out]; omega)
          go_wp2
          go_roundw
          case rel =>
            refine ⟨j + 1, zs.set (k + j) ((q + (M.el zs (k + j) + M.el (M.dig x) k * M.el (M.dig y) j)) % 16777216), _, by go_num, rfl, by omega, by rw [List.length_set]; exact HLN.out, HLIM.out.set _ (by omega) (by omega), fun m hm => ?_, by omega, by omega, ?_, by simp only [List.length_set]; exact HOWN.out.set _ _, HBW.out.setCell (p := ⟨g, k + j, none⟩) hgB _⟩
            · rw [M.el_set _ _ _ _ (by rw [HLN.out]; omega), if_neg (by omega)]; exact HZ.out m hm
            · rw [M.val_set _ _ _ (by rw [HLN.out]; omega), M.val_take_succ', ← Nat.add_assoc, Int.pow_succ]
              exact M.mul_step (Int.pow_add ..) HVAL.out
          case measure => simp [intOf]; omega
        · obtain ⟨hgB, hcz, hfz⟩ := HOWN.out.at (k + (M.dig y).length) (by rw [HLN.out]; omega)
          have hj' : j = (M.dig y).length := by omega
          have hv := HVAL.out
          rw [List.take_of_length_le (l := M.dig y) (by omega), M.val_dig, hj'] at hv
          have HV := Lib.hid hv
          clear hv hj'
          go_wp2
          go_roundw
          case rel =>
            refine ⟨k + 1, zs.set (k + (M.dig y).length) q, by go_num, by omega, by rw [List.length_set]; exact HLN.out, HLIM.out.set _ hq0 hq1, fun m hm => ?_, ?_, by simp only [List.length_set]; exact HOWN.out.set _ _, HBW.out.setCell (p := ⟨g, k + (M.dig y).length, none⟩) hgB _⟩
            · rw [M.el_set _ _ _ _ (by rw [HLN.out]; omega), if_neg (by omega)]; exact HZ.out m (by omega)
            · rw [M.val_set _ _ _ (by rw [HLN.out]; omega), HZ.out _ (Nat.le_refl _), M.val_take_succ']
              exact M.mul_row HV.out
          case measure => simp [intOf]; omega
    · have hk' : k = (M.dig x).length := by omega
      have hend : M.trimL zs = M.dig (x * y) := by
        refine M.mul_end HLIM.out ?_
        have hv := HVAL.out
        rwa [List.take_of_length_le (by omega), M.val_dig] at hv
      have hw := within_any _ zs _ wo HOWN.out.rowAt
      have ho := HOWN.out.trimmed
      rw [hend] at hw ho
      rw [HLN.out] at hw ho
      obtain ⟨a', c', hcut⟩ := cut_slice (some ⟨g, 0, none⟩) ((M.dig x).length + (M.dig y).length) (M.dig (x * y))
      rw [hcut] at hw ho
      clear hend hcut
      have HO := Lib.hid ho
      have HK := Lib.hid hk'
      clear ho hk'
      have hs2 : w.heap.size + 1 + 1 < wo.heap.size := by have := HSZ.out; have := HBW.out.size; omega
      by_cases h200 : (M.dig (x * y)).length ≤ 200
      · rw [if_pos h200] at hw
        have HW := Lib.hid hw
        clear hw
        go_wp2_with (go_at_call 71; refine HW.out.mono ?_; rintro e w7 ⟨rfl, hb7⟩; have d2 := (hb7.cell (p := ⟨w.heap.size + 1 + 1, 0, none⟩) hs2).trans c2; have g2 := (hb7.frozen (p := ⟨w.heap.size + 1 + 1, 0, none⟩) hs2).trans f2)
        refine bodyPost_ret (v := .tuple #[.agg #[.slice a' (M.dig (x * y)).length c'], .int .i64 0]) (by simp [results, Tryd.results28, go_sem, d2]) rfl ⟨natRes_ok h200 ?_, ?_⟩
        · exact ((HO.out.below hb7).setBelow (p := ⟨w.heap.size + 1 + 1, 0, none⟩) (by simp) _).num
        · exact ((HB3.out.trans (HBW.out.mono (by omega))).trans (hb7.mono (by have := HSZ.out; omega))).setCell (p := ⟨w.heap.size + 1 + 1, 0, none⟩) (by simp; omega) _
      · rw [if_neg h200] at hw
        have HW := Lib.hid hw
        clear hw
        go_wp2_with (go_at_call 71; refine HW.out.mono ?_; rintro e w7 ⟨rfl, hb7⟩; have d2 := (hb7.cell (p := ⟨w.heap.size + 1 + 1, 0, none⟩) hs2).trans c2; have g2 := (hb7.frozen (p := ⟨w.heap.size + 1 + 1, 0, none⟩) hs2).trans f2)
        refine bodyPost_ret (v := .tuple #[.agg #[.slice none 0 0], .int .i64 3]) (by simp [results, Tryd.results28, go_sem, d2]) rfl ⟨natRes_limit h200, ?_⟩
        exact ((HB3.out.trans (HBW.out.mono (by omega))).trans (hb7.mono (by have := HSZ.out; omega))).setCell (p := ⟨w.heap.size + 1 + 1, 0, none⟩) (by simp; omega) _

/-- **nat.Mul** of two numbers. -/
theorem mul_num {u v : Value} {x y : Nat} {w : World} (hx : (M.dig x).length ≤ 200) (hy : (M.dig y).length ≤ 200) (hu : Num w u x) (hv : Num w v y) :
    Calls Tryd.prog 28 #[u, v] w fun e W' => NatRes (x * y) e W' ∧ Below w.heap.size w W' := by
  obtain ⟨a, ca, rfl, ha⟩ := hu
  obtain ⟨b, cb, rfl, hb⟩ := hv
  exact mul_any a b ca cb x y w hx hy ha hb
end Go.Proofs.YtamniclnhenmgaaDoor
