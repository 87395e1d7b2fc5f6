/- The reference's limb, fit, Cmp. -/
import Derived.Test.YtamniclnhenmgaaDoorDivLimbs
import Derived.Test.YtamniclnhenmgaaDoorAdd
import Derived.Test.YtamniclnhenmgaaDoorCmp
namespace Go.Proofs.YtamniclnhenmgaaDoor
open Go Go.RowKit Go.Shelf

set_option maxHeartbeats 400000 in
/-- **ref01.limb** -/
theorem rlimb_any (a : Option Addr) (zs : List Int) (cap : Nat) (k : Nat) (w : World) (hR : Row w a zs cap) :
    Calls Tryd.prog 72 #[.agg #[.slice a zs.length cap], .int .i64 (k : Int)] w fun e W' => e = .returned (.int .i64 (M.el zs k)) ∧ Below w.heap.size w W' := by
  have hroom := hR.room
  have hmost := hR.most
  have hb := (Below.refl _ w).alloc (Nat.le_refl _) (.cells #[.slice a zs.length cap] 24)
  have HB := Lib.hid hb
  by_cases h : k < zs.length
  · obtain ⟨b, off, rfl, hc⟩ := hR.el k h
    have hc' := cell_below hb hc
    clear hb hc
    go_enter Tryd.func72, Tryd.ntmps72
    go_wp2
    go_ret
    exact ⟨rfl, HB.out⟩
  · have hz := Lib.hid (M.el_ge (zs := zs) (k := k) (by omega))
    clear hb
    go_enter Tryd.func72, Tryd.ntmps72
    go_wp2
    go_ret
    exact ⟨by rw [hz.out]; rfl, HB.out⟩

theorem Row.take {W : World} {a : Option Addr} {cap : Nat} {zs : List Int} (h : Row W a zs cap) (t : Nat) : Row W a (zs.take t) cap :=
  ⟨by have := h.room; rw [List.length_take]; omega, h.most, fun j hj => by
    rw [List.length_take] at hj
    obtain ⟨b, off, e, hc⟩ := h.el j (by omega)
    exact ⟨b, off, e, by rw [M.el_take (by omega)]; exact hc⟩⟩

theorem trimL_stop {zs : List Int} {k : Nat} (hk : k ≤ zs.length) (hz : ∀ j : Nat, k ≤ j → M.el zs j = 0) (h : k = 0 ∨ M.el zs (k - 1) ≠ 0) : (M.trimL zs).length = k := by
  rcases h with rfl | h
  · rw [M.trimL_none zs (fun j => hz j (Nat.zero_le _))]; rfl
  · rcases Nat.eq_zero_or_pos k with rfl | h0
    · rw [M.trimL_none zs (fun j => hz j (Nat.zero_le _))]; rfl
    · have := M.trimL_at zs (k - 1) h (fun i hi => hz i (by omega))
      omega

/-- The result is the number n, in memory made from block B on, or ErrLimit if it is too long. -/
def NatFit (B n : Nat) (e : Ending) (W : World) : Prop :=
  if (M.dig n).length ≤ 200 then ∃ v, e = .returned (.tuple #[v, .int .i64 0]) ∧ ∃ a c, v = .agg #[.slice a (M.dig n).length c] ∧ Row W a (M.dig n) c ∧ Fresh B a (M.dig n) else e = .returned (.tuple #[.agg #[.slice none 0 0], .int .i64 3])
theorem NatFit.ok {B n : Nat} {e : Ending} {W : World} (h : NatFit B n e W) (hl : (M.dig n).length ≤ 200) : ∃ v, e = .returned (.tuple #[v, .int .i64 0]) ∧ ∃ a c, v = .agg #[.slice a (M.dig n).length c] ∧ Row W a (M.dig n) c ∧ Fresh B a (M.dig n) := by
  unfold NatFit at h; rwa [if_pos hl] at h
theorem NatFit.limit {B n : Nat} {e : Ending} {W : World} (h : NatFit B n e W) (hl : ¬ (M.dig n).length ≤ 200) : e = .returned (.tuple #[.agg #[.slice none 0 0], .int .i64 3]) := by
  unfold NatFit at h; rwa [if_neg hl] at h

def FitRel (zs : List Int) (i : Value) : Prop := ∃ k : Nat, i = .int .i64 (k : Int) ∧ k ≤ zs.length ∧ ∀ j : Nat, k ≤ j → M.el zs j = 0

set_option maxRecDepth 100000 in
set_option maxHeartbeats 1000000 in
/-- **ref01.fit**, of a slice that is not nil. -/
theorem rfit_trim (b off : Nat) (zs : List Int) (cap n : Nat) (w : World) (hR : Row w (some ⟨b, off, none⟩) zs cap) (ht : M.trimL zs = M.dig n) :
    Calls Tryd.prog 73 #[.slice (some ⟨b, off, none⟩) zs.length cap] w fun e W' => NatFit w.heap.size n e W' ∧ Below w.heap.size w W' := by
  have hroom := hR.room
  have hmost := hR.most
  have hb := (Below.refl _ w).alloc (Nat.le_refl _) (.cells #[.slice none 0 0] 24)
  have HR := Lib.hid (hR.below hb)
  have HT := Lib.hid ht
  have HB := Lib.hid hb
  have c2 := cell_new w (.slice none 0 0) 24
  have f2 := frozen_new w (.slice none 0 0) 24
  clear hR ht hb
  go_enter Tryd.func73, Tryd.ntmps73
  go_wp2_with fail
  go_loop [4] (fun i => FitRel zs i) (fun i => (intOf i).toNat)
  case atStart => exact ⟨zs.length, rfl, Nat.le_refl _, fun j hj => M.el_ge hj⟩
  case round =>
    obtain ⟨k, rfl, hk, hz⟩ := hrel
    have HZ := Lib.hid hz
    clear hz
    by_cases hgo : 0 < k ∧ M.el zs (k - 1) = 0
    · obtain ⟨h0, he⟩ := hgo
      have hc := HR.out.cell (k - 1) (by omega)
      have e1 : off + ((k : Int) - 1).toNat = off + (k - 1) := by omega
      rw [he] at hc
      have HE := Lib.hid he
      clear he
      have ecast : (k : Int) - 1 = ((k - 1 : Nat) : Int) := by omega
      have HEC := Lib.hid ecast
      clear ecast
      go_wp2_with fail
      go_round
      case rel => exact ⟨k - 1, by rw [HEC.out], by omega, fun j hj => by
        rcases Nat.lt_or_ge j k with h | h
        · rw [show j = k - 1 by omega]; exact HE.out
        · exact HZ.out j h⟩
      case measure => simp [intOf]; omega
    · have hst : (M.trimL zs).length = k := trimL_stop hk HZ.out (by
        rcases Nat.eq_zero_or_pos k with h | h
        · exact .inl h
        · exact .inr (fun e => hgo ⟨h, e⟩))
      have htk : zs.take k = M.dig n := by rw [← HT.out, ← hst, M.trimL_take]
      have hdl : (M.dig n).length = k := by rw [← HT.out]; exact hst
      have hfin : ∀ (P : Prop), (0 < k → (decide (M.el zs (k - 1) = 0) = false) → P) → (k = 0 → P) → P := fun P h1 h2 => by
        rcases Nat.eq_zero_or_pos k with h | h
        · exact h2 h
        · exact h1 h (decide_eq_false fun e => hgo ⟨h, e⟩)
      have hrt := HR.out.take k
      rw [htk] at hrt
      have HRT := Lib.hid hrt
      clear hst htk hgo hrt
      subst hdl
      refine hfin _ ?_ ?_
      · intro h0 hne
        have hc := HR.out.cell ((M.dig n).length - 1) (by omega)
        have e1 : off + (((M.dig n).length : Int) - 1).toNat = off + ((M.dig n).length - 1) := by omega
        have hne2 : (M.el zs ((M.dig n).length - 1) == 0) = false := by rw [beq_eq_false_iff_ne]; exact of_decide_eq_false hne
        obtain ⟨z, hz⟩ : ∃ z, M.el zs ((M.dig n).length - 1) = z := ⟨_, rfl⟩
        rw [hz] at hc hne2
        clear hne hfin hz
        by_cases h200 : (M.dig n).length ≤ 200
        · go_wp2_with (at_builtin; refine wpList_appAll rfl _ _ rfl rfl (Own.nil _ (w.heap.size + 1)) rfl HRT.out (by simp; omega) (by simp) ?_; intro a' cap' W' hown' hb'; have d2 := (hb'.cell (p := ⟨w.heap.size, 0, none⟩) (by simp)).trans c2; have g2 := (hb'.frozen (p := ⟨w.heap.size, 0, none⟩) (by simp)).trans f2)
          refine bodyPost_ret (v := .tuple #[.agg #[.slice a' (M.dig n).length cap'], .int .i64 0]) (by simp [results, Tryd.results73, go_sem, d2]) rfl ⟨by unfold NatFit; rw [if_pos h200]; exact ⟨_, rfl, a', cap', rfl, (hown'.setBelow (p := ⟨w.heap.size, 0, none⟩) (by simp) (.slice a' (M.dig n).length cap')).rowAt, (hown'.mono (B' := w.heap.size) (by omega)).fresh⟩, ?_⟩
          · exact (HB.out.trans (hb'.mono (by omega))).setCell (p := ⟨w.heap.size, 0, none⟩) (Nat.le_refl _) _
        · go_wp2_with fail
          refine bodyPost_ret (v := .tuple #[.agg #[.slice none 0 0], .int .i64 3]) (by simp [results, Tryd.results73, go_sem, c2]) rfl ⟨by unfold NatFit; rw [if_neg h200], HB.out⟩
      · intro h0
        obtain rfl : n = 0 := M.dig_nil.1 (List.length_eq_zero_iff.1 h0)
        have hd0 : ((M.dig 0).length : Int) = 0 := by rw [M.dig_zero]; rfl
        have hdn : (M.dig 0).length = 0 := by rw [M.dig_zero]; rfl
        clear hfin hk HZ
        rw [hd0]
        go_wp2_with (at_builtin; refine wpList_appNone rfl _ _ rfl rfl (Own.nil _ (w.heap.size + 1)) rfl (by simp) ?_; intro a' cap' W' hown' hb'; have d2 := (hb'.cell (p := ⟨w.heap.size, 0, none⟩) (by simp)).trans c2; have g2 := (hb'.frozen (p := ⟨w.heap.size, 0, none⟩) (by simp)).trans f2)
        have hn := (hown'.setBelow (p := ⟨w.heap.size, 0, none⟩) (by simp) (.slice a' 0 cap'))
        refine bodyPost_ret (v := .tuple #[.agg #[.slice a' 0 cap'], .int .i64 0]) (by simp [results, Tryd.results73, go_sem, d2]) rfl ⟨by unfold NatFit; rw [if_pos (by rw [M.dig_zero]; simp)]; exact ⟨_, rfl, a', cap', by rw [hdn], by rw [M.dig_zero]; exact hn.rowAt, fun b off e hl => by rw [M.dig_zero] at hl; simp at hl⟩, ?_⟩
        · exact (HB.out.trans (hb'.mono (by omega))).setCell (p := ⟨w.heap.size, 0, none⟩) (Nat.le_refl _) _

set_option maxRecDepth 100000 in
set_option maxHeartbeats 1000000 in
/-- **ref01.Valid** of a valid number. -/
theorem rvalid_yes (a : Option Addr) (zs : List Int) (cap : Nat) (w : World) (hR : Row w a zs cap) (hV : Vld zs) :
    Calls Tryd.prog 67 #[.agg #[.slice a zs.length cap]] w fun e W' => e = .returned (.bool true) ∧ Below w.heap.size w W' := by
  have hroom := hR.room
  have hmost := hR.most
  have hb := (Below.refl _ w).alloc (Nat.le_refl _) (.cells #[.slice a zs.length cap] 24)
  have HR := Lib.hid (hR.below hb)
  have HB := Lib.hid hb
  have HV := Lib.hid hV
  have c0 := cell_new w (.slice a zs.length cap) 24
  have hl200 : zs.length ≤ 200 := hV.len
  clear hR hb hV
  by_cases h0 : 0 < zs.length
  · have htop := HV.out.last h0
    obtain ⟨b, off, rfl, hc⟩ := HR.out.el (zs.length - 1) (by omega)
    have e1 : off + ((zs.length : Int) - 1).toNat = off + (zs.length - 1) := by omega
    have hne : (M.el zs (zs.length - 1) == 0) = false := beq_eq_false_iff_ne.2 htop
    have HTOP := Lib.hid htop
    clear htop
    go_enter Tryd.func67, Tryd.ntmps67
    go_wp2_with fail
    clear hc e1 hne
    go_loop [4] (fun i => ∃ k : Nat, k ≤ zs.length ∧ i = .int .i64 k) (fun i => zs.length - (intOf i).toNat)
    case atStart => exact ⟨0, Nat.zero_le _, rfl⟩
    case round =>
      obtain ⟨k, hk, rfl⟩ := hrel
      have hl := HV.out.lim.get k
      by_cases hlt : k < zs.length
      · have hck := HR.out.cell k hlt
        go_wp2_with fail
        go_round
        case rel => exact ⟨k + 1, by omega, by go_num⟩
        case measure => simp [intOf]; omega
      · go_wp2_with fail
        go_ret
        exact ⟨rfl, HB.out⟩
  · obtain rfl : zs = [] := List.length_eq_zero_iff.1 (by omega)
    clear h0 HR HV
    go_enter Tryd.func67, Tryd.ntmps67
    go_wp2_with fail
    go_loop [4] (fun i => i = .int .i64 0) (fun _ => 0)
    case atStart => rfl
    case round =>
      obtain rfl := hrel
      go_wp2_with fail
      go_ret
      exact ⟨rfl, HB.out⟩

set_option maxRecDepth 100000 in
set_option maxHeartbeats 1000000 in
/-- **ref01.Cmp** of two numbers. -/
theorem rcmp_any (a b : Option Addr) (ca cb x y : Nat) (w : World) (hA : Row w a (M.dig x) ca) (hB : Row w b (M.dig y) cb) :
    Calls Tryd.prog 69 #[.agg #[.slice a (M.dig x).length ca], .agg #[.slice b (M.dig y).length cb]] w fun e W' => e = .returned (.int .i64 (Lib.compareInt (x : Int) (y : Int))) ∧ Below w.heap.size w W' := by
  have hb := ((Below.refl _ w).alloc (Nat.le_refl _) (.cells #[.slice a (M.dig x).length ca] 24)).alloc (by simp) (.cells #[.slice b (M.dig y).length cb] 24)
  have HA := Lib.hid (hA.below hb)
  have HB := Lib.hid (hB.below hb)
  have HBB := Lib.hid hb
  have hra := hA.room
  have hma := hA.most
  have hrb := hB.room
  have hmb := hB.most
  clear hA hB hb
  by_cases hl : (M.dig x).length = (M.dig y).length
  · have hne : (((M.dig x).length : Int) != ((M.dig y).length : Int)) = false := by rw [hl]; simp
    have HL := Lib.hid hl
    rw [← hl] at hrb
    clear hl
    go_enter Tryd.func69, Tryd.ntmps69
    go_wp2_with fail
    clear hne
    have c0 := cell_later (.cells #[.slice b (M.dig y).length cb] 24) (cell_new w (.slice a (M.dig x).length ca) 24)
    have c1 := cell_new (w.alloc (.cells #[.slice a (M.dig x).length ca] 24)) (.slice b (M.dig y).length cb) 24
    simp only [World.size_alloc] at c1
    generalize ((w.alloc (.cells #[.slice a (M.dig x).length ca] 24)).alloc (.cells #[.slice b (M.dig y).length cb] 24)) = w3 at *
    go_loopw [5] (fun i wr => (∃ k : Nat, k ≤ (M.dig x).length ∧ i = .int .i64 ((k : Int) - 1) ∧ ∀ j : Nat, k ≤ j → M.el (M.dig x) j = M.el (M.dig y) j) ∧ ∃ q, wr = w3.drewN q) (fun i _ => (intOf i + 1).toNat)
    case atStart => exact ⟨⟨(M.dig x).length, Nat.le_refl _, rfl, fun j hj => by rw [M.el_ge hj, M.el_ge (by rw [← HL.out]; exact hj)]⟩, 0, rfl⟩
    case round =>
      obtain ⟨⟨k, hk, rfl, hz⟩, q, rfl⟩ := hrel
      have HZ := Lib.hid hz
      clear hz
      cases k with
      | zero =>
        have hres := compare_same x y HL.out (fun j => HZ.out j (Nat.zero_le _))
        have HRES := Lib.hid hres
        clear hres
        go_wp2_with fail
        go_ret
        exact ⟨by rw [HRES.out]; rfl, belowN HBB.out q⟩
      | succ k =>
        have hky : k < (M.dig y).length := by rw [← HL.out]; omega
        obtain ⟨b1, o1, rfl, hca⟩ := HA.out.el k (by omega)
        obtain ⟨b2, o2, rfl, hcb⟩ := HB.out.el k hky
        have e1 : ((k + 1 : Nat) : Int) - 1 = (k : Int) := by omega
        rw [e1]
        obtain ⟨zx, hzx⟩ : ∃ zx, M.el (M.dig x) k = zx := ⟨_, rfl⟩
        obtain ⟨zy, hzy⟩ : ∃ zy, M.el (M.dig y) k = zy := ⟨_, rfl⟩
        rw [hzx] at hca
        rw [hzy] at hcb
        have HZX := Lib.hid hzx
        have HZY := Lib.hid hzy
        have hk1 : (k : Int) < ((M.dig x).length : Int) := by omega
        have hk2 : (k : Int) < ((M.dig y).length : Int) := by omega
        have hk0 : (0 : Int) ≤ (k : Int) := by omega
        clear e1 hzx hzy
        rcases Int.lt_trichotomy zx zy with h | h | h
        · have hd : decide (zx < zy) = true := decide_eq_true h
          have hres := compare_top x y HL.out k (by omega) (fun j hj => HZ.out j (by omega)) (by rw [HZX.out, HZY.out]; omega)
          rw [HZX.out, HZY.out, compare_lt h] at hres
          have HRES := Lib.hid hres
          clear hres
          go_wp2_with fail
          go_quiet (fail)
          go_wp2_with fail
          go_ret
          exact ⟨by rw [← HRES.out]; rfl, belowN (belowN HBB.out q) _⟩
        · subst h
          have hd : decide (zx < zx) = false := decide_eq_false (by omega)
          have hel : M.el (M.dig x) k = M.el (M.dig y) k := by rw [HZX.out, HZY.out]
          have HEL := Lib.hid hel
          clear hel
          go_wp2_with fail
          go_quiet (fail)
          go_wp2_with fail
          go_quiet (fail)
          go_wp2_with fail
          go_roundw
          case rel => exact ⟨⟨k, by omega, rfl, fun j hj => by
            rcases Nat.lt_or_ge k j with h | h
            · exact HZ.out j (by omega)
            · rw [show j = k by omega]; exact HEL.out⟩, _, rfl⟩
          case measure => simp [intOf]
        · have hd : decide (zx < zy) = false := decide_eq_false (by omega)
          have hd2 : decide (zy < zx) = true := decide_eq_true h
          have hres := compare_top x y HL.out k (by omega) (fun j hj => HZ.out j (by omega)) (by rw [HZX.out, HZY.out]; omega)
          rw [HZX.out, HZY.out, compare_gt h] at hres
          have HRES := Lib.hid hres
          clear hres
          go_wp2_with fail
          go_quiet (fail)
          go_wp2_with fail
          go_quiet (fail)
          go_wp2_with fail
          go_ret
          exact ⟨by rw [← HRES.out]; rfl, belowN (belowN (belowN HBB.out q) _) _⟩
  · have hne : (((M.dig x).length : Int) != ((M.dig y).length : Int)) = true := by rw [bne_iff_ne]; omega
    have hres := compare_len x y hl
    rcases Nat.lt_or_gt_of_ne hl with h | h
    · have hd : decide ((M.dig x).length < (M.dig y).length) = true := decide_eq_true h
      rw [compare_lt (by omega)] at hres
      have HRES := Lib.hid hres
      clear hres
      go_enter Tryd.func69, Tryd.ntmps69
      go_wp2_with fail
      go_ret
      exact ⟨by rw [← HRES.out]; rfl, HBB.out⟩
    · have hd : decide ((M.dig x).length < (M.dig y).length) = false := decide_eq_false (by omega)
      rw [compare_gt (by omega)] at hres
      have HRES := Lib.hid hres
      clear hres
      go_enter Tryd.func69, Tryd.ntmps69
      go_wp2_with fail
      go_ret
      exact ⟨by rw [← HRES.out]; rfl, HBB.out⟩
end Go.Proofs.YtamniclnhenmgaaDoor
