/- nat.Cmp. The reference's limb, fit, Cmp. The reference's times and less. append of any slice of ints to one of the call's own. The reference's less. The numbers of the reference's long division. -/
import Derived.Test.YtfaggdjoogpmmaaDoorB3
import Derived.Lib.Small
import Derived.Laws.OwnMore
import Derived.Deep.RegionWith
namespace Go.Proofs.YtfaggdjoogpmmaaDoor
open Go Go.RowKit Go.Shelf
attribute [local go_sem] Oper.semAt_some

theorem lt_of_top {zs ys : List Int} (hz : M.Lim zs) (hy : M.Lim ys) (hl : zs.length = ys.length) (k : Nat) (hk : k < zs.length) (he : ∀ j, k < j → M.el zs j = M.el ys j) (h : M.el zs k < M.el ys k) : M.val zs < M.val ys := by
  have e1 : M.val zs = M.val (zs.take k) + 16777216 ^ k * (M.el zs k + 16777216 * M.val (zs.drop (k + 1))) := by
    have := M.val_append (zs.take k) (zs.drop k)
    rw [List.take_append_drop, List.length_take, Nat.min_eq_left (by omega), M.drop_el _ _ hk] at this
    rw [this]; rfl
  have e2 : M.val ys = M.val (ys.take k) + 16777216 ^ k * (M.el ys k + 16777216 * M.val (zs.drop (k + 1))) := by
    have hd : zs.drop (k + 1) = ys.drop (k + 1) := M.ext_el (by simp [hl]) fun j _ => by rw [M.el_drop, M.el_drop]; exact he _ (by omega)
    have := M.val_append (ys.take k) (ys.drop k)
    rw [List.take_append_drop, List.length_take, Nat.min_eq_left (by omega), M.drop_el _ _ (by omega : k < ys.length)] at this
    rw [this, hd]; rfl
  have b1 : M.val (zs.take k) < 16777216 ^ k := M.val_le_of_len (hz.take k) (by rw [List.length_take]; omega)
  have b2 := M.val_nonneg (hy.take k)
  have b3 : (16777216 : Int) ^ k * (M.el zs k + 16777216 * M.val (zs.drop (k + 1)) + 1) ≤ 16777216 ^ k * (M.el ys k + 16777216 * M.val (zs.drop (k + 1))) := Int.mul_le_mul_of_nonneg_left (by omega) (Int.le_of_lt (M.pow_pos k))
  rw [Int.mul_add, Int.mul_one] at b3
  rw [e1, e2]
  omega

theorem compare_lt {x y : Int} (h : x < y) : Lib.compareInt x y = -1 := by unfold Lib.compareInt; rw [if_pos h]
theorem compare_gt {x y : Int} (h : y < x) : Lib.compareInt x y = 1 := by unfold Lib.compareInt; rw [if_neg (by omega), if_pos h]
theorem compare_eq {x y : Int} (h : x = y) : Lib.compareInt x y = 0 := by subst h; unfold Lib.compareInt; simp
theorem compare_ne {x y : Int} (h : x ≠ y) : Lib.compareInt x y ≠ 0 := by
  rcases Int.lt_or_gt_of_ne h with h | h
  · rw [compare_lt h]; decide
  · rw [compare_gt h]; decide

/-- The comparison of numbers is that of their lengths, where they differ. -/
theorem compare_len (x y : Nat) (h : (M.dig x).length ≠ (M.dig y).length) : Lib.compareInt ((M.dig x).length : Int) ((M.dig y).length : Int) = Lib.compareInt (x : Int) (y : Int) := by
  have hlt : ∀ a b : Nat, (M.dig a).length < (M.dig b).length → a < b := by
    intro a b hl
    by_cases hab : a < b
    · exact hab
    · have h1 : a < 16777216 ^ (M.dig a).length := M.dig_len_le.1 (Nat.le_refl _)
      have h2 : (M.dig b).length ≤ (M.dig a).length := M.dig_len_le.2 (by omega)
      omega
  rcases Nat.lt_or_gt_of_ne h with h | h
  · rw [compare_lt (by omega), compare_lt (by have := hlt x y h; omega)]
  · rw [compare_gt (by omega), compare_gt (by have := hlt y x h; omega)]
/-- .. and that of the highest limb in which they differ. -/
theorem compare_top (x y : Nat) (h : (M.dig x).length = (M.dig y).length) (k : Nat) (hk : k < (M.dig x).length) (he : ∀ j, k < j → M.el (M.dig x) j = M.el (M.dig y) j) (hne : M.el (M.dig x) k ≠ M.el (M.dig y) k) : Lib.compareInt (M.el (M.dig x) k) (M.el (M.dig y) k) = Lib.compareInt (x : Int) (y : Int) := by
  rcases Int.lt_or_gt_of_ne hne with h' | h'
  · have := lt_of_top (M.lim_dig x) (M.lim_dig y) h k hk he h'
    rw [M.val_dig, M.val_dig] at this
    rw [compare_lt h', compare_lt this]
  · have := lt_of_top (M.lim_dig y) (M.lim_dig x) h.symm k (by omega) (fun j hj => (he j hj).symm) h'
    rw [M.val_dig, M.val_dig] at this
    rw [compare_gt h', compare_gt this]
theorem compare_same (x y : Nat) (h : (M.dig x).length = (M.dig y).length) (he : ∀ j : Nat, M.el (M.dig x) j = M.el (M.dig y) j) : Lib.compareInt (x : Int) (y : Int) = 0 :=
  compare_eq (by rw [M.dig_inj (M.ext_el h fun k _ => he k)])

set_option maxRecDepth 100000 in
set_option maxHeartbeats 2000000 in
theorem cmp_of (hC : ∀ (x y : Int) (w : World), Calls Tryd.prog 84 #[.int .i64 x, .int .i64 y] w fun e w' => e = .returned (.int .i64 (Lib.compareInt x y)) ∧ w' = w) (a b : Option Addr) (ca cb x y : Nat) (w : World) (hA : Row w a (M.dig x) ca) (hB : Row w b (M.dig y) cb) :
    Calls Tryd.prog 41 #[.agg #[.slice a (M.dig x).length ca], .agg #[.slice b (M.dig y).length cb]] w fun e W' => e = .returned (.int .i64 (Lib.compareInt (x : Int) (y : Int))) ∧ Below w.heap.size w W' := by
  have HC := Lib.hid hC
  clear hC
  refine (callsIn_wide (n := 6)).1 ?_
  refine callsIn_of_wp_marks Tryd.func41 rfl trivial ?_ rfl
  simp only [Tryd.ntmps41, List.size_toArray, List.length_cons, List.length_nil, Nat.reduceAdd, Nat.reduceSub, Array.replicate_succ, Array.replicate_zero, List.push_toArray, List.append_toArray, List.nil_append, List.cons_append]
  have c0 := cell_new w (.slice a (M.dig x).length ca) 24
  have c1 := cell_new (w.alloc (.cells #[.slice a (M.dig x).length ca] 24)) (.slice b (M.dig y).length cb) 24
  have c2 := cell_new ((w.alloc (.cells #[.slice a (M.dig x).length ca] 24)).alloc (.cells #[.slice b (M.dig y).length cb] 24)) (.int .i64 0) 3
  have f2 := frozen_new ((w.alloc (.cells #[.slice a (M.dig x).length ca] 24)).alloc (.cells #[.slice b (M.dig y).length cb] 24)) (.int .i64 0) 3
  simp only [World.size_alloc] at c1 c2 f2
  have d1 := cell_later (.cells #[.int .i64 0] 3) c1
  have d0 := cell_later (.cells #[.int .i64 0] 3) (cell_later (.cells #[.slice b (M.dig y).length cb] 24) c0)
  have HD := Lib.hid (And.intro d0 (And.intro d1 (And.intro c2 f2)))
  clear d0 d1 c2 f2 c0 c1
  have hB0 : Below w.heap.size w (((w.alloc (.cells #[.slice a (M.dig x).length ca] 24)).alloc (.cells #[.slice b (M.dig y).length cb] 24)).alloc (.cells #[.int .i64 0] 3)) := (((Below.refl _ w).alloc (Nat.le_refl _) _).alloc (by simp) _).alloc (by simp; omega) _
  have HB0 := Lib.hid hB0
  clear hB0
  by_cases hl : (M.dig x).length = (M.dig y).length
  · have hcmp : Lib.compareInt ((M.dig x).length : Int) ((M.dig y).length : Int) = 0 := compare_eq (by rw [hl])
    have HL := Lib.hid hl
    clear hl
    gi_wp2_with fail
    refine ⟨trivial, ?_⟩
    refine (callsIn_wide.2 (HC.out _ _ _)).mono ?_
    rintro e w' ⟨rfl, rfl⟩
    rw [hcmp]
    gi_wp2_with fail
    refine ⟨trivial, ?_⟩
    refine (callsIn_wide.2 (backward_any _ _ _ _)).mono ?_
    rintro e w' ⟨rfl, rfl⟩
    gi_wp2_with fail
    have d3 := cell_new (((w.alloc (.cells #[.slice a (M.dig x).length ca] 24)).alloc (.cells #[.slice b (M.dig y).length cb] 24)).alloc (.cells #[.int .i64 0] 3)) (.slice a (M.dig x).length ca) 22
    simp only [World.size_alloc] at d3
    refine wpIn_back (n := 6) (by omega) (Bs := w.heap.size + 1 + 1 + 1) rfl rfl a (M.dig x).length ca (by have := hA.room; have := hA.most; omega) (fun j => M.el (M.dig x) j)
      (fun k W => ((∀ j : Nat, k ≤ j → M.el (M.dig x) j = M.el (M.dig y) j) ∧ W.cell? ⟨w.heap.size + 1, 0, none⟩ = some (.slice b (M.dig y).length cb) ∧ W.cell? ⟨w.heap.size + 1 + 1, 0, none⟩ = some (.int .i64 0) ∧ W.frozen? ⟨w.heap.size + 1 + 1, 0, none⟩ = false ∧ W.cell? ⟨w.heap.size + 1 + 1 + 1, 0, none⟩ = some (.slice a (M.dig x).length ca)) ∧ Below w.heap.size w W)
      (fun c k W => (c = .ret ∧ W.cell? ⟨w.heap.size + 1 + 1, 0, none⟩ = some (.int .i64 (Lib.compareInt (x : Int) (y : Int)))) ∧ Below w.heap.size w W)
      (OwnFrom.and (Own.from (fun s A B row hs hg hr => ⟨hs.1, cell_kept hs.2.1 hg hr, cell_kept hs.2.2.1 hg hr, (frozen_kept hs.2.2.1 hg hr).trans hs.2.2.2.1, cell_kept hs.2.2.2.2 hg hr⟩) _) (ownFrom_below (Nat.le_refl _) (by simp; omega)))
      (fun c => OwnFrom.and (Own.from (fun s A B row hs hg hr => ⟨hs.1, cell_kept hs.2 hg hr⟩) _) (ownFrom_below (Nat.le_refl _) (by simp; omega)))
      ⟨⟨fun j hj => by rw [M.el_ge hj, M.el_ge (by rw [← HL.out]; exact hj)], cell_later _ HD.out.2.1, cell_later _ HD.out.2.2.1, frozen_later _ HD.out.2.2.1 HD.out.2.2.2, d3⟩, HB0.out.alloc (by simp; omega) _⟩
      (fun k W h => h.1.2.2.2.2)
      (fun k W h hk => by
        obtain ⟨b, off, e, hc⟩ := hA.el k hk
        exact ⟨b, off, e, (h.2.cell (p := ⟨b, off + k, none⟩) (lt_of_cell hc)).trans hc⟩)
      (fun k => { tmps := List.toArray ((.agg #[.slice a (M.dig x).length ca]) :: (.agg #[.slice b (M.dig y).length cb]) :: (.pointer (some ⟨w.heap.size, 0, none⟩)) :: (.pointer (some ⟨w.heap.size + 1, 0, none⟩)) :: (.pointer (some ⟨w.heap.size + 1 + 1, 0, none⟩)) :: (.int .i64 0) :: (.int .i64 (k : Int)) :: (.int .i64 (M.el (M.dig x) k)) :: undef :: (.pointer (some ⟨w.heap.size, 0, none⟩)) :: (.slice a (M.dig x).length ca) :: (.int .i64 ((M.dig x).length : Int)) :: (.pointer (some ⟨w.heap.size + 1, 0, none⟩)) :: (.slice b (M.dig y).length cb) :: (.int .i64 ((M.dig y).length : Int)) :: (.int .i64 0) :: (.int .i64 0) :: (.bool false) :: undef :: (.pointer (some ⟨w.heap.size, 0, none⟩)) :: (.slice a (M.dig x).length ca) :: (.func (.func 110) #[] #[.pointer (some ⟨w.heap.size + 1 + 1 + 1, 0, none⟩)]) :: (.int .i64 (k : Int)) :: (.int .i64 (M.el (M.dig x) k)) :: undef :: undef :: undef :: undef :: undef :: undef :: undef :: undef :: undef :: undef :: []), defers := [] }) ?assign ?body ?done ?stop
    case assign =>
      intro l k W K hk hK
      gi_wp2
      exact hK
    case body =>
      rintro l k W hl hrec ⟨⟨hz, hc1, hc2, hf2, hc3⟩, hB'⟩ hk
      have hroom := hB.room
      have hmost := hB.most
      have hky : k < (M.dig y).length := by rw [← HL.out]; exact hk
      obtain ⟨bb, off, rfl, hcy0⟩ := hB.el k hky
      have hcy := (hB'.cell (p := ⟨bb, off + k, none⟩) (lt_of_cell hcy0)).trans hcy0
      have HZ := Lib.hid hz
      clear hz hcy0
      by_cases hne : M.el (M.dig x) k = M.el (M.dig y) k
      · have hc := compare_eq hne
        have HN := Lib.hid hne
        clear hne
        gi_wp2_with fail
        refine ⟨trivial, ?_⟩
        refine (callsIn_wide.2 (HC.out _ _ _)).mono ?_
        rintro e w' ⟨rfl, rfl⟩
        rw [hc]
        gi_wp2_with fail
        refine ⟨(KeepsOthers.refl _).from _, ⟨fun j hj => ?_, hc1, hc2, hf2, hc3⟩, hB'⟩
        by_cases e : j = k
        · rw [e]; exact HN.out
        · exact HZ.out j (by omega)
      · have hc := compare_top x y HL.out k hk (fun j hj => HZ.out j hj) hne
        have hnb : (Lib.compareInt (x : Int) (y : Int) != 0) = true := by
          rw [← hc, bne_iff_ne]; exact compare_ne hne
        have HN := Lib.hid hne
        clear hne
        gi_wp2_with fail
        refine ⟨trivial, ?_⟩
        refine (callsIn_wide.2 (HC.out _ _ _)).mono ?_
        rintro e w' ⟨rfl, rfl⟩
        rw [hc]
        gi_wp2_with fail
        exact ⟨(KeepsOthers.setCell _ _ _).from _, ⟨rfl, World.cell?_setCell_same' _ _ _ (by rw [hc2]; rfl)⟩, hB'.setCell (p := ⟨w.heap.size + 1 + 1, 0, none⟩) (by simp; omega) _⟩
    case done =>
      rintro D W hD ⟨⟨hz, _, hc2, hf2, _⟩, hB'⟩ hK
      have HS := Lib.hid (compare_same x y HL.out fun j => hz j (Nat.zero_le _))
      clear hz
      gi_wp2
      have hK' := (KeepsOthers.setCell W ⟨w.heap.size + 1 + 1, 0, none⟩ (.int .i64 0)).same D _ hK rfl
      refine ⟨by simp, .inl ⟨_, _, rfl, run_takeDeferred hK', ?_⟩⟩
      have hc5 := cell_kept (World.cell?_setCell_same' W ⟨w.heap.size + 1 + 1, 0, none⟩ (.int .i64 0) (by rw [hc2]; rfl)) (grownBy_putObj' _ D (.deferred none)) (fun r e => by cases e; exact ⟨_, hK', rfl⟩)
      refine ⟨.int .i64 0, ?_, by rw [HS.out], (hB'.setCell (p := ⟨w.heap.size + 1 + 1, 0, none⟩) (by simp; omega) _).trans (belowK_b (w := w) (Nat.le_refl _) _ D _ _ (by simp at hD; omega) hK' rfl rfl)⟩
      simp [results, Tryd.f41, go_sem, hc5]
    case stop =>
      rintro D c k W hD hk ⟨⟨rfl, hc2⟩, hB'⟩ hK
      gi_wp2
      refine ⟨by simp, .inl ⟨_, _, rfl, run_takeDeferred hK, ?_⟩⟩
      have hc5 := cell_kept hc2 (grownBy_putObj' _ D (.deferred none)) (fun r e => by cases e; exact ⟨_, hK, rfl⟩)
      refine ⟨.int .i64 (Lib.compareInt (x : Int) (y : Int)), ?_, rfl, hB'.trans (belowK_b (w := w) (Nat.le_refl _) W D _ _ (by simp at hD; omega) hK rfl rfl)⟩
      simp [results, Tryd.f41, go_sem, hc5]
  · have hcmp := compare_len x y hl
    have hne : (Lib.compareInt (x : Int) (y : Int) != 0) = true := by
      rw [← hcmp, bne_iff_ne]; exact compare_ne (by omega)
    have HL := Lib.hid hl
    clear hl
    gi_wp2_with fail
    refine ⟨trivial, ?_⟩
    refine (callsIn_wide.2 (HC.out _ _ _)).mono ?_
    rintro e w' ⟨rfl, rfl⟩
    rw [hcmp]
    gi_wp2_with fail
    have e2 := cell_new ((w.alloc (.cells #[.slice a (M.dig x).length ca] 24)).alloc (.cells #[.slice b (M.dig y).length cb] 24)) (.int .i64 (Lib.compareInt (x : Int) (y : Int))) 3
    simp only [World.size_alloc] at e2
    refine ⟨.int .i64 (Lib.compareInt (x : Int) (y : Int)), ?_, rfl, (((Below.refl _ w).alloc (Nat.le_refl _) _).alloc (by simp) _).alloc (by simp; omega) _⟩
    simp [results, Tryd.f41, go_sem, e2]

end Go.Proofs.YtfaggdjoogpmmaaDoor

namespace Go.Proofs.YtfaggdjoogpmmaaDoor
open Go Go.RowKit Go.Shelf

set_option maxHeartbeats 400000 in
/-- **ref01.limb** -/
theorem rlimb_any (a : Option Addr) (zs : List Int) (cap : Nat) (k : Nat) (w : World) (hR : Row w a zs cap) :
    Calls Tryd.prog 72 #[.agg #[.slice a zs.length cap], .int .i64 (k : Int)] w fun e W' => e = .returned (.int .i64 (M.el zs k)) ∧ Below w.heap.size w W' := by
  have hroom := hR.room
  have hmost := hR.most
  have hb := (Below.refl _ w).alloc (Nat.le_refl _) (.cells #[.slice a zs.length cap] 24)
  have HB := Lib.hid hb
  by_cases h : k < zs.length
  · obtain ⟨b, off, rfl, hc⟩ := hR.el k h
    have hc' := cell_below hb hc
    clear hb hc
    go_enter Tryd.func72, Tryd.ntmps72
    go_wp2
    go_ret
    exact ⟨rfl, HB.out⟩
  · have hz := Lib.hid (M.el_ge (zs := zs) (k := k) (by omega))
    clear hb
    go_enter Tryd.func72, Tryd.ntmps72
    go_wp2
    go_ret
    exact ⟨by rw [hz.out]; rfl, HB.out⟩

theorem Row.take {W : World} {a : Option Addr} {cap : Nat} {zs : List Int} (h : Row W a zs cap) (t : Nat) : Row W a (zs.take t) cap :=
  ⟨by have := h.room; rw [List.length_take]; omega, h.most, fun j hj => by
    rw [List.length_take] at hj
    obtain ⟨b, off, e, hc⟩ := h.el j (by omega)
    exact ⟨b, off, e, by rw [M.el_take (by omega)]; exact hc⟩⟩

theorem trimL_stop {zs : List Int} {k : Nat} (hk : k ≤ zs.length) (hz : ∀ j : Nat, k ≤ j → M.el zs j = 0) (h : k = 0 ∨ M.el zs (k - 1) ≠ 0) : (M.trimL zs).length = k := by
  rcases h with rfl | h
  · rw [M.trimL_none zs (fun j => hz j (Nat.zero_le _))]; rfl
  · rcases Nat.eq_zero_or_pos k with rfl | h0
    · rw [M.trimL_none zs (fun j => hz j (Nat.zero_le _))]; rfl
    · have := M.trimL_at zs (k - 1) h (fun i hi => hz i (by omega))
      omega

/-- The result is the number n, in memory made from block B on, or ErrLimit if it is too long. -/
def NatFit (B n : Nat) (e : Ending) (W : World) : Prop :=
  if (M.dig n).length ≤ 200 then ∃ v, e = .returned (.tuple #[v, .int .i64 0]) ∧ ∃ a c, v = .agg #[.slice a (M.dig n).length c] ∧ Row W a (M.dig n) c ∧ Fresh B a (M.dig n) else e = .returned (.tuple #[.agg #[.slice none 0 0], .int .i64 3])
theorem NatFit.ok {B n : Nat} {e : Ending} {W : World} (h : NatFit B n e W) (hl : (M.dig n).length ≤ 200) : ∃ v, e = .returned (.tuple #[v, .int .i64 0]) ∧ ∃ a c, v = .agg #[.slice a (M.dig n).length c] ∧ Row W a (M.dig n) c ∧ Fresh B a (M.dig n) := by
  unfold NatFit at h; rwa [if_pos hl] at h
theorem NatFit.limit {B n : Nat} {e : Ending} {W : World} (h : NatFit B n e W) (hl : ¬ (M.dig n).length ≤ 200) : e = .returned (.tuple #[.agg #[.slice none 0 0], .int .i64 3]) := by
  unfold NatFit at h; rwa [if_neg hl] at h

def FitRel (zs : List Int) (i : Value) : Prop := ∃ k : Nat, i = .int .i64 (k : Int) ∧ k ≤ zs.length ∧ ∀ j : Nat, k ≤ j → M.el zs j = 0

set_option maxRecDepth 100000 in
set_option maxHeartbeats 1000000 in
/-- **ref01.fit**, of a slice that is not nil. -/
theorem rfit_trim (b off : Nat) (zs : List Int) (cap n : Nat) (w : World) (hR : Row w (some ⟨b, off, none⟩) zs cap) (ht : M.trimL zs = M.dig n) :
    Calls Tryd.prog 73 #[.slice (some ⟨b, off, none⟩) zs.length cap] w fun e W' => NatFit w.heap.size n e W' ∧ Below w.heap.size w W' := by
  have hroom := hR.room
  have hmost := hR.most
  have hb := (Below.refl _ w).alloc (Nat.le_refl _) (.cells #[.slice none 0 0] 24)
  have HR := Lib.hid (hR.below hb)
  have HT := Lib.hid ht
  have HB := Lib.hid hb
  have c2 := cell_new w (.slice none 0 0) 24
  have f2 := frozen_new w (.slice none 0 0) 24
  clear hR ht hb
  go_enter Tryd.func73, Tryd.ntmps73
  go_wp2_with fail
  go_loop [4] (fun i => FitRel zs i) (fun i => (intOf i).toNat)
  case atStart => exact ⟨zs.length, rfl, Nat.le_refl _, fun j hj => M.el_ge hj⟩
  case round =>
    obtain ⟨k, rfl, hk, hz⟩ := hrel
    have HZ := Lib.hid hz
    clear hz
    by_cases hgo : 0 < k ∧ M.el zs (k - 1) = 0
    · obtain ⟨h0, he⟩ := hgo
      have hc := HR.out.cell (k - 1) (by omega)
      have e1 : off + ((k : Int) - 1).toNat = off + (k - 1) := by omega
      rw [he] at hc
      have HE := Lib.hid he
      clear he
      have ecast : (k : Int) - 1 = ((k - 1 : Nat) : Int) := by omega
      have HEC := Lib.hid ecast
      clear ecast
      go_wp2_with fail
      go_round
      case rel => exact ⟨k - 1, by rw [HEC.out], by omega, fun j hj => by
        rcases Nat.lt_or_ge j k with h | h
        · rw [show j = k - 1 by omega]; exact HE.out
        · exact HZ.out j h⟩
      case measure => simp [intOf]; omega
    · have hst : (M.trimL zs).length = k := trimL_stop hk HZ.out (by
        rcases Nat.eq_zero_or_pos k with h | h
        · exact .inl h
        · exact .inr (fun e => hgo ⟨h, e⟩))
      have htk : zs.take k = M.dig n := by rw [← HT.out, ← hst, M.trimL_take]
      have hdl : (M.dig n).length = k := by rw [← HT.out]; exact hst
      have hfin : ∀ (P : Prop), (0 < k → (decide (M.el zs (k - 1) = 0) = false) → P) → (k = 0 → P) → P := fun P h1 h2 => by
        rcases Nat.eq_zero_or_pos k with h | h
        · exact h2 h
        · exact h1 h (decide_eq_false fun e => hgo ⟨h, e⟩)
      have hrt := HR.out.take k
      rw [htk] at hrt
      have HRT := Lib.hid hrt
      clear hst htk hgo hrt
      subst hdl
      refine hfin _ ?_ ?_
      · intro h0 hne
        have hc := HR.out.cell ((M.dig n).length - 1) (by omega)
        have e1 : off + (((M.dig n).length : Int) - 1).toNat = off + ((M.dig n).length - 1) := by omega
        have hne2 : (M.el zs ((M.dig n).length - 1) == 0) = false := by rw [beq_eq_false_iff_ne]; exact of_decide_eq_false hne
        obtain ⟨z, hz⟩ : ∃ z, M.el zs ((M.dig n).length - 1) = z := ⟨_, rfl⟩
        rw [hz] at hc hne2
        clear hne hfin hz
        by_cases h200 : (M.dig n).length ≤ 200
        · go_wp2_with (at_builtin; refine wpList_appAll rfl _ _ rfl rfl (Own.nil _ (w.heap.size + 1)) rfl HRT.out (by simp; omega) (by simp) ?_; intro a' cap' W' hown' hb'; have d2 := (hb'.cell (p := ⟨w.heap.size, 0, none⟩) (by simp)).trans c2; have g2 := (hb'.frozen (p := ⟨w.heap.size, 0, none⟩) (by simp)).trans f2)
          refine bodyPost_ret (v := .tuple #[.agg #[.slice a' (M.dig n).length cap'], .int .i64 0]) (by simp [results, Tryd.results73, go_sem, d2]) rfl ⟨by unfold NatFit; rw [if_pos h200]; exact ⟨_, rfl, a', cap', rfl, (hown'.setBelow (p := ⟨w.heap.size, 0, none⟩) (by simp) (.slice a' (M.dig n).length cap')).rowAt, (hown'.mono (B' := w.heap.size) (by omega)).fresh⟩, ?_⟩
          · exact (HB.out.trans (hb'.mono (by omega))).setCell (p := ⟨w.heap.size, 0, none⟩) (Nat.le_refl _) _
        · go_wp2_with fail
          refine bodyPost_ret (v := .tuple #[.agg #[.slice none 0 0], .int .i64 3]) (by simp [results, Tryd.results73, go_sem, c2]) rfl ⟨by unfold NatFit; rw [if_neg h200], HB.out⟩
      · intro h0
        obtain rfl : n = 0 := M.dig_nil.1 (List.length_eq_zero_iff.1 h0)
        have hd0 : ((M.dig 0).length : Int) = 0 := by rw [M.dig_zero]; rfl
        have hdn : (M.dig 0).length = 0 := by rw [M.dig_zero]; rfl
        clear hfin hk HZ
        rw [hd0]
        go_wp2_with (at_builtin; refine wpList_appNone rfl _ _ rfl rfl (Own.nil _ (w.heap.size + 1)) rfl (by simp) ?_; intro a' cap' W' hown' hb'; have d2 := (hb'.cell (p := ⟨w.heap.size, 0, none⟩) (by simp)).trans c2; have g2 := (hb'.frozen (p := ⟨w.heap.size, 0, none⟩) (by simp)).trans f2)
        have hn := (hown'.setBelow (p := ⟨w.heap.size, 0, none⟩) (by simp) (.slice a' 0 cap'))
        refine bodyPost_ret (v := .tuple #[.agg #[.slice a' 0 cap'], .int .i64 0]) (by simp [results, Tryd.results73, go_sem, d2]) rfl ⟨by unfold NatFit; rw [if_pos (by rw [M.dig_zero]; simp)]; exact ⟨_, rfl, a', cap', by rw [hdn], by rw [M.dig_zero]; exact hn.rowAt, fun b off e hl => by rw [M.dig_zero] at hl; simp at hl⟩, ?_⟩
        · exact (HB.out.trans (hb'.mono (by omega))).setCell (p := ⟨w.heap.size, 0, none⟩) (Nat.le_refl _) _

set_option maxRecDepth 100000 in
set_option maxHeartbeats 1000000 in
/-- **ref01.Valid** of a valid number. -/
theorem rvalid_yes (a : Option Addr) (zs : List Int) (cap : Nat) (w : World) (hR : Row w a zs cap) (hV : Vld zs) :
    Calls Tryd.prog 67 #[.agg #[.slice a zs.length cap]] w fun e W' => e = .returned (.bool true) ∧ Below w.heap.size w W' := by
  have hroom := hR.room
  have hmost := hR.most
  have hb := (Below.refl _ w).alloc (Nat.le_refl _) (.cells #[.slice a zs.length cap] 24)
  have HR := Lib.hid (hR.below hb)
  have HB := Lib.hid hb
  have HV := Lib.hid hV
  have c0 := cell_new w (.slice a zs.length cap) 24
  have hl200 : zs.length ≤ 200 := hV.len
  clear hR hb hV
  by_cases h0 : 0 < zs.length
  · have htop := HV.out.last h0
    obtain ⟨b, off, rfl, hc⟩ := HR.out.el (zs.length - 1) (by omega)
    have e1 : off + ((zs.length : Int) - 1).toNat = off + (zs.length - 1) := by omega
    have hne : (M.el zs (zs.length - 1) == 0) = false := beq_eq_false_iff_ne.2 htop
    have HTOP := Lib.hid htop
    clear htop
    go_enter Tryd.func67, Tryd.ntmps67
    go_wp2_with fail
    clear hc e1 hne
    go_loop [4] (fun i => ∃ k : Nat, k ≤ zs.length ∧ i = .int .i64 k) (fun i => zs.length - (intOf i).toNat)
    case atStart => exact ⟨0, Nat.zero_le _, rfl⟩
    case round =>
      obtain ⟨k, hk, rfl⟩ := hrel
      have hl := HV.out.lim.get k
      by_cases hlt : k < zs.length
      · have hck := HR.out.cell k hlt
        go_wp2_with fail
        go_round
        case rel => exact ⟨k + 1, by omega, by go_num⟩
        case measure => simp [intOf]; omega
      · go_wp2_with fail
        go_ret
        exact ⟨rfl, HB.out⟩
  · obtain rfl : zs = [] := List.length_eq_zero_iff.1 (by omega)
    clear h0 HR HV
    go_enter Tryd.func67, Tryd.ntmps67
    go_wp2_with fail
    go_loop [4] (fun i => i = .int .i64 0) (fun _ => 0)
    case atStart => rfl
    case round =>
      obtain rfl := hrel
      go_wp2_with fail
      go_ret
      exact ⟨rfl, HB.out⟩

set_option maxRecDepth 100000 in
set_option maxHeartbeats 1000000 in
/-- **ref01.Cmp** of two numbers. -/
theorem rcmp_any (a b : Option Addr) (ca cb x y : Nat) (w : World) (hA : Row w a (M.dig x) ca) (hB : Row w b (M.dig y) cb) :
    Calls Tryd.prog 69 #[.agg #[.slice a (M.dig x).length ca], .agg #[.slice b (M.dig y).length cb]] w fun e W' => e = .returned (.int .i64 (Lib.compareInt (x : Int) (y : Int))) ∧ Below w.heap.size w W' := by
  have hb := ((Below.refl _ w).alloc (Nat.le_refl _) (.cells #[.slice a (M.dig x).length ca] 24)).alloc (by simp) (.cells #[.slice b (M.dig y).length cb] 24)
  have HA := Lib.hid (hA.below hb)
  have HB := Lib.hid (hB.below hb)
  have HBB := Lib.hid hb
  have hra := hA.room
  have hma := hA.most
  have hrb := hB.room
  have hmb := hB.most
  clear hA hB hb
  by_cases hl : (M.dig x).length = (M.dig y).length
  · have hne : (((M.dig x).length : Int) != ((M.dig y).length : Int)) = false := by rw [hl]; simp
    have HL := Lib.hid hl
    rw [← hl] at hrb
    clear hl
    go_enter Tryd.func69, Tryd.ntmps69
    go_wp2_with fail
    clear hne
    have c0 := cell_later (.cells #[.slice b (M.dig y).length cb] 24) (cell_new w (.slice a (M.dig x).length ca) 24)
    have c1 := cell_new (w.alloc (.cells #[.slice a (M.dig x).length ca] 24)) (.slice b (M.dig y).length cb) 24
    simp only [World.size_alloc] at c1
    generalize ((w.alloc (.cells #[.slice a (M.dig x).length ca] 24)).alloc (.cells #[.slice b (M.dig y).length cb] 24)) = w3 at *
    go_loopw [5] (fun i wr => (∃ k : Nat, k ≤ (M.dig x).length ∧ i = .int .i64 ((k : Int) - 1) ∧ ∀ j : Nat, k ≤ j → M.el (M.dig x) j = M.el (M.dig y) j) ∧ ∃ q, wr = w3.drewN q) (fun i _ => (intOf i + 1).toNat)
    case atStart => exact ⟨⟨(M.dig x).length, Nat.le_refl _, rfl, fun j hj => by rw [M.el_ge hj, M.el_ge (by rw [← HL.out]; exact hj)]⟩, 0, rfl⟩
    case round =>
      obtain ⟨⟨k, hk, rfl, hz⟩, q, rfl⟩ := hrel
      have HZ := Lib.hid hz
      clear hz
      cases k with
      | zero =>
        have hres := compare_same x y HL.out (fun j => HZ.out j (Nat.zero_le _))
        have HRES := Lib.hid hres
        clear hres
        go_wp2_with fail
        go_ret
        exact ⟨by rw [HRES.out]; rfl, belowN HBB.out q⟩
      | succ k =>
        have hky : k < (M.dig y).length := by rw [← HL.out]; omega
        obtain ⟨b1, o1, rfl, hca⟩ := HA.out.el k (by omega)
        obtain ⟨b2, o2, rfl, hcb⟩ := HB.out.el k hky
        have e1 : ((k + 1 : Nat) : Int) - 1 = (k : Int) := by omega
        rw [e1]
        obtain ⟨zx, hzx⟩ : ∃ zx, M.el (M.dig x) k = zx := ⟨_, rfl⟩
        obtain ⟨zy, hzy⟩ : ∃ zy, M.el (M.dig y) k = zy := ⟨_, rfl⟩
        rw [hzx] at hca
        rw [hzy] at hcb
        have HZX := Lib.hid hzx
        have HZY := Lib.hid hzy
        have hk1 : (k : Int) < ((M.dig x).length : Int) := by omega
        have hk2 : (k : Int) < ((M.dig y).length : Int) := by omega
        have hk0 : (0 : Int) ≤ (k : Int) := by omega
        clear e1 hzx hzy
        rcases Int.lt_trichotomy zx zy with h | h | h
        · have hd : decide (zx < zy) = true := decide_eq_true h
          have hres := compare_top x y HL.out k (by omega) (fun j hj => HZ.out j (by omega)) (by rw [HZX.out, HZY.out]; omega)
          rw [HZX.out, HZY.out, compare_lt h] at hres
          have HRES := Lib.hid hres
          clear hres
          go_wp2_with fail
          go_quiet (fail)
          go_wp2_with fail
          go_ret
          exact ⟨by rw [← HRES.out]; rfl, belowN (belowN HBB.out q) _⟩
        · subst h
          have hd : decide (zx < zx) = false := decide_eq_false (by omega)
          have hel : M.el (M.dig x) k = M.el (M.dig y) k := by rw [HZX.out, HZY.out]
          have HEL := Lib.hid hel
          clear hel
          go_wp2_with fail
          go_quiet (fail)
          go_wp2_with fail
          go_quiet (fail)
          go_wp2_with fail
          go_roundw
          case rel => exact ⟨⟨k, by omega, rfl, fun j hj => by
            rcases Nat.lt_or_ge k j with h | h
            · exact HZ.out j (by omega)
            · rw [show j = k by omega]; exact HEL.out⟩, _, rfl⟩
          case measure => simp [intOf]
        · have hd : decide (zx < zy) = false := decide_eq_false (by omega)
          have hd2 : decide (zy < zx) = true := decide_eq_true h
          have hres := compare_top x y HL.out k (by omega) (fun j hj => HZ.out j (by omega)) (by rw [HZX.out, HZY.out]; omega)
          rw [HZX.out, HZY.out, compare_gt h] at hres
          have HRES := Lib.hid hres
          clear hres
          go_wp2_with fail
          go_quiet (fail)
          go_wp2_with fail
          go_quiet (fail)
          go_wp2_with fail
          go_ret
          exact ⟨by rw [← HRES.out]; rfl, belowN (belowN (belowN HBB.out q) _) _⟩
  · have hne : (((M.dig x).length : Int) != ((M.dig y).length : Int)) = true := by rw [bne_iff_ne]; omega
    have hres := compare_len x y hl
    rcases Nat.lt_or_gt_of_ne hl with h | h
    · have hd : decide ((M.dig x).length < (M.dig y).length) = true := decide_eq_true h
      rw [compare_lt (by omega)] at hres
      have HRES := Lib.hid hres
      clear hres
      go_enter Tryd.func69, Tryd.ntmps69
      go_wp2_with fail
      go_ret
      exact ⟨by rw [← HRES.out]; rfl, HBB.out⟩
    · have hd : decide ((M.dig x).length < (M.dig y).length) = false := decide_eq_false (by omega)
      rw [compare_gt (by omega)] at hres
      have HRES := Lib.hid hres
      clear hres
      go_enter Tryd.func69, Tryd.ntmps69
      go_wp2_with fail
      go_ret
      exact ⟨by rw [← HRES.out]; rfl, HBB.out⟩
end Go.Proofs.YtfaggdjoogpmmaaDoor

namespace Go.Proofs.YtfaggdjoogpmmaaDoor
open Go Go.RowKit Go.Shelf

/-- **make([]int, 0, n)** -/
theorem wpList_make0 {W : World} {ops : Array Oper} {rest : List Oper} {o : Oper} {a : Act} {Q : Exit → Act → World → Prop} (hgd : o.guard = none) (l c : Operand) (hop : o.op = Op.makeSlice 22 l c)
    {B : Nat} (n : Nat) {L : Int} (hl : a.eval l = .int .i64 0) (hc : a.eval c = .int .i64 L) (hL : L = (n : Int)) (hn : n < 1000000) (hbase : B ≤ W.heap.size)
    (h : ∀ W', Own W' B (.slice (some ⟨W.heap.size, 0, none⟩) 0 n) [] → Below B W W' → wpList Tryd.prog ops Q rest (a.put o.dst (.slice (some ⟨W.heap.size, 0, none⟩) 0 n)) W') : wpList Tryd.prog ops Q (o :: rest) a W := by
  obtain ⟨i0, hi, hz0, hz1, hz2⟩ := info_parts info_int
  refine wpList_make_own W hgd l c 22 hop B 3 i0 (.int .i64 0) 1 Tryd.underlying22 hi hz0 hz1 .i64 .i64 L n hl hc hL (by rw [hz2]; omega) (by unfold maxLen; omega) hbase ?_
  intro W' hown hgrow
  exact h W' hown ((Below.refl B W).grown hgrow hbase (fun k e => by cases e))

theorem M.rtimes_step {V P q s n A : Int} (h : V + P * q = A * n) : (V + P * ((s * n + q) % 16777216)) + P * 16777216 * ((s * n + q) / 16777216) = (A + P * s) * n := by
  have h1 := M.pow_split P (s * n + q)
  rw [Int.mul_add] at h1
  rw [Int.add_mul, Int.mul_assoc P s n]
  omega

def TmRel (w w2 : World) (x n : Nat) (l c i : Value) (W : World) : Prop :=
  ∃ (k : Nat) (zs : List Int) (q : Int) (a : Option Addr) (cap : Nat), l = .slice a zs.length cap ∧ c = .int .i64 q ∧ i = .int .i64 (k : Int) ∧ k ≤ (M.dig x).length ∧ zs.length = k ∧ M.Lim zs ∧ 0 ≤ q ∧ q < 16777216 ∧
    M.val zs + 16777216 ^ k * q = M.val ((M.dig x).take k) * n ∧ Own W (w.heap.size + 2) (.slice a zs.length cap) zs ∧ Below w2.heap.size w2 W

set_option maxRecDepth 100000 in
set_option maxHeartbeats 2000000 in
/-- **ref01.times** -/
theorem rtimes_any (a : Option Addr) (ca x n : Nat) (w : World) (hx : (M.dig x).length ≤ 300) (hn : n < 16777216) (hA : Row w a (M.dig x) ca) :
    Calls Tryd.prog 100 #[.agg #[.slice a (M.dig x).length ca], .int .i64 (n : Int)] w fun e W' => (∃ g cap, e = .returned (.agg #[.slice (some ⟨g, 0, none⟩) (M.dig (x * n)).length cap]) ∧ Row W' (some ⟨g, 0, none⟩) (M.dig (x * n)) cap) ∧ Below w.heap.size w W' := by
  have hb := ((Below.refl _ w).alloc (Nat.le_refl _) (.cells #[.slice a (M.dig x).length ca] 24)).alloc (by simp) (.cells #[.slice none 0 0] 24)
  have HA := Lib.hid (hA.below hb)
  have HBB := Lib.hid hb
  have hra := hA.room
  have hma := hA.most
  have c0 := cell_later (.cells #[.slice none 0 0] 24) (cell_new w (.slice a (M.dig x).length ca) 24)
  have c1 := cell_new (w.alloc (.cells #[.slice a (M.dig x).length ca] 24)) (.slice none 0 0) 24
  have f1 := frozen_new (w.alloc (.cells #[.slice a (M.dig x).length ca] 24)) (.slice none 0 0) 24
  simp only [World.size_alloc] at c1 f1
  have hs2 : ((w.alloc (.cells #[.slice a (M.dig x).length ca] 24)).alloc (.cells #[.slice none 0 0] 24)).heap.size = w.heap.size + 2 := by simp
  have HC := Lib.hid (And.intro c0 (And.intro c1 f1))
  clear hA hb c0 c1 f1
  go_enter Tryd.func100, Tryd.ntmps100
  go_wp2_with (at_make; refine wpList_make0 rfl _ _ rfl ((M.dig x).length + 1) rfl rfl (by omega) (by omega) (B := w.heap.size + 2) (by rw [hs2]; exact Nat.le_refl _) ?_; intro w6 hown6 hb6)
  generalize ((w.alloc (.cells #[.slice a (M.dig x).length ca] 24)).alloc (.cells #[.slice none 0 0] 24)) = w2 at *
  have HS2 := Lib.hid hs2
  rw [hs2] at hown6
  rw [← hs2] at hb6
  clear hs2
  go_loopw [5, 6, 7] (fun l c i wr => TmRel w w2 x n l c i wr) (fun _ _ i _ => (M.dig x).length - (intOf i).toNat)
  case atStart => exact ⟨0, [], 0, _, _, rfl, rfl, rfl, Nat.zero_le _, rfl, M.Lim.nil, by omega, by omega, by simp [M.val], hown6, hb6⟩
  case round =>
    clear hown6 hb6
    obtain ⟨k, zs, q, al, cl, rfl, rfl, rfl, hk, hlen, hlim, hq0, hq1, hval, hown, hbW⟩ := hrel
    have c0 := cell_below hbW HC.out.1
    have c1 := cell_below hbW HC.out.2.1
    have f1 := frozen_below hbW HC.out.2.1 HC.out.2.2
    have HRA := Lib.hid (HA.out.below hbW)
    have HBW := Lib.hid hbW
    have HVAL := Lib.hid hval
    have HLN := Lib.hid hlen
    have HLIM := Lib.hid hlim
    have HOWN := Lib.hid hown
    have hsW : w.heap.size + 2 ≤ wr.heap.size := by have h1 := hbW.size; have h2 := HS2.out; omega
    clear hval hlen hlim hown hbW
    by_cases hlt : k < (M.dig x).length
    · have hax := (M.lim_dig x).get k
      obtain ⟨ex, hex⟩ : ∃ ex, M.el (M.dig x) k = ex := ⟨_, rfl⟩
      obtain ⟨b1, o1, rfl, hca0⟩ := HRA.out.el k hlt
      rw [hex] at hax hca0
      have hmb := M.mul_bound hax (b := (n : Int)) (by omega)
      have HEX := Lib.hid hex
      have hln : zs.length < 1000 := by rw [HLN.out]; omega
      clear hex c1 f1
      go_wp2_with (at_builtin; refine wpList_app1 rfl _ _ rfl rfl (HOWN.out.alloc _) rfl (cell_new _ _ _) (by omega) (by simp; omega) ?_; intro a' cap' W' hown' hb')
      go_roundw
      case rel =>
        refine ⟨k + 1, zs ++ [(ex * n + q) % 16777216], (ex * n + q) / 16777216, a', cap', by rw [List.length_append]; rfl, rfl, by go_num, by omega, by rw [List.length_append, HLN.out]; rfl, HLIM.out.append (M.Lim.cons (by omega) (by omega) M.Lim.nil), by omega, by omega, ?_, hown', ?_⟩
        · rw [M.val_append, HLN.out, M.val_take_succ', Int.pow_succ, HEX.out]
          simp only [M.val, Int.mul_zero, Int.add_zero]
          exact M.rtimes_step HVAL.out
        · have := HBW.out.alloc HBW.out.size (.cells #[.int .i64 ((ex * n + q) % 16777216)] 3)
          exact this.trans (hb'.mono (by rw [HS2.out]; exact Nat.le_refl _))
      case measure => simp [intOf]; omega
    · have hk' : k = (M.dig x).length := by omega
      have hv := HVAL.out
      rw [List.take_of_length_le (by omega), M.val_dig] at hv
      have hln : zs.length < 1000 := by rw [HLN.out]; omega
      have hlim2 : M.Lim (zs ++ [q]) := HLIM.out.append (M.Lim.cons hq0 hq1 M.Lim.nil)
      have hval2 : M.val (zs ++ [q]) = ((x * n : Nat) : Int) := by
        rw [M.val_append, HLN.out, Int.natCast_mul, ← hv]; simp [M.val]
      have htr : M.trimL (zs ++ [q]) = M.dig (x * n) := trim_dig hlim2 hval2
      have HTR := Lib.hid htr
      have hl2 : (zs ++ [q]).length = zs.length + 1 := by simp
      have HL2 := Lib.hid hl2
      have HK := Lib.hid hk'
      clear htr hlim2 hval2 hv hl2 hk'
      go_wp2_with (at_builtin; refine wpList_app1 rfl _ _ rfl rfl (HOWN.out.alloc _) rfl (cell_new _ _ _) (by omega) (by simp; omega) ?_; intro a' cap' W' hown' hb'; have d1 := (hb'.cell (p := ⟨w.heap.size + 1, 0, none⟩) (by show w.heap.size + 1 < _; omega)).trans (cell_later (.cells #[.int .i64 q] 3) c1); have g1 := (hb'.frozen (p := ⟨w.heap.size + 1, 0, none⟩) (by show w.heap.size + 1 < _; omega)).trans (frozen_later (.cells #[.int .i64 q] 3) c1 f1))
      obtain ⟨g, rfl, hgB, hgW, _, _, _, _⟩ := hown'.at2 0 (by simp)
      have hroom := hown'.rowAt.room
      have hmost := hown'.rowAt.most
      have HROW := Lib.hid hown'.rowAt
      have HOW := Lib.hid hown'
      have hB := (HBB.out.trans (HBW.out.mono HBB.out.size)).alloc (by omega) (.cells #[.int .i64 q] 3)
      have HB2 := Lib.hid (hB.trans (hb'.mono (by omega)))
      rw [HL2.out] at hroom
      obtain ⟨ys, hys⟩ : ∃ ys, zs ++ [q] = ys := ⟨_, rfl⟩
      rw [hys] at HROW HOW HTR HL2
      clear hown' hb' hB c0 c1 f1 HOWN HBW HRA HLIM HVAL hys
      obtain ⟨m, hm⟩ : ∃ m, zs.length + 1 = m := ⟨_, rfl⟩
      rw [hm] at HL2 hroom
      have HM := Lib.hid hm
      rw [hm]
      clear hm
      go_loop [9] (fun i => FitRel ys i) (fun i => (intOf i).toNat)
      case atStart => exact ⟨m, by first | rfl | (rw [← HM.out]; rfl), by rw [HL2.out]; exact Nat.le_refl _, fun j hj => M.el_ge (by rw [HL2.out]; exact hj)⟩
      case round =>
        obtain ⟨k2, rfl, hk2, hz⟩ := hrel
        have HZ := Lib.hid hz
        rw [HL2.out] at hk2
        clear hz
        by_cases hgo : 0 < k2 ∧ M.el ys (k2 - 1) = 0
        · obtain ⟨h0, he⟩ := hgo
          have hc := HROW.out.cell (k2 - 1) (by rw [HL2.out]; omega)
          rw [he, Nat.zero_add] at hc
          have e1 : ((k2 : Int) - 1).toNat = k2 - 1 := by omega
          have HE := Lib.hid he
          have ecast : (k2 : Int) - 1 = ((k2 - 1 : Nat) : Int) := by omega
          have HEC := Lib.hid ecast
          clear he ecast
          go_wp2_with fail
          go_round
          case rel => exact ⟨k2 - 1, by rw [HEC.out], by rw [HL2.out]; omega, fun j hj => by
            rcases Nat.lt_or_ge j k2 with h | h
            · rw [show j = k2 - 1 by omega]; exact HE.out
            · exact HZ.out j h⟩
          case measure => simp [intOf]; omega
        · have hst : (M.trimL ys).length = k2 := trimL_stop (by rw [HL2.out]; exact hk2) HZ.out (by
            rcases Nat.eq_zero_or_pos k2 with h | h
            · exact .inl h
            · exact .inr (fun e => hgo ⟨h, e⟩))
          have htk : ys.take k2 = M.dig (x * n) := by rw [← HTR.out, ← hst, M.trimL_take]
          have hdl : (M.dig (x * n)).length = k2 := by rw [← HTR.out]; exact hst
          have hfin : ∀ (P : Prop), (0 < k2 → (decide (M.el ys (k2 - 1) = 0) = false) → P) → (k2 = 0 → P) → P := fun P h1 h2 => by
            rcases Nat.eq_zero_or_pos k2 with h | h
            · exact h2 h
            · exact h1 h (decide_eq_false fun e => hgo ⟨h, e⟩)
          have hrt := HROW.out.take k2
          rw [htk] at hrt
          have HRT := Lib.hid hrt
          have hfr : Fresh (w.heap.size + 2) (some ⟨g, 0, none⟩) (M.dig (x * n)) := fun b off e _ => by cases e; exact hgB
          have HFR := Lib.hid hfr
          have hcell := HB2.out.size
          have d2 := d1
          clear hst htk hgo hrt hfr
          subst hdl
          refine hfin _ ?_ ?_
          · intro h0 hne
            have hc := HROW.out.cell ((M.dig (x * n)).length - 1) (by rw [HL2.out]; omega)
            rw [Nat.zero_add] at hc
            have e1 : (((M.dig (x * n)).length : Int) - 1).toNat = (M.dig (x * n)).length - 1 := by omega
            have hne2 : (M.el ys ((M.dig (x * n)).length - 1) == 0) = false := by rw [beq_eq_false_iff_ne]; exact of_decide_eq_false hne
            obtain ⟨z, hz⟩ : ∃ z, M.el ys ((M.dig (x * n)).length - 1) = z := ⟨_, rfl⟩
            rw [hz] at hc hne2
            clear hne hfin hz
            go_wp2_with fail
            refine bodyPost_ret (v := .agg #[.slice (some ⟨g, 0, none⟩) (M.dig (x * n)).length cap']) (by simp [results, Tryd.results100, go_sem, d2]) rfl ⟨⟨g, cap', rfl, ?_⟩, ?_⟩
            · exact HRT.out.setFresh HFR.out (p := ⟨w.heap.size + 1, 0, none⟩) (by show w.heap.size + 1 < _; omega) _
            · exact HB2.out.setCell (p := ⟨w.heap.size + 1, 0, none⟩) (by simp) _
          · intro h0
            have hd0 : ((M.dig (x * n)).length : Int) = 0 := by rw [h0]; rfl
            have HD := Lib.hid h0
            rw [hd0]
            clear hfin h0 hd0 hk2 HZ
            go_wp2_with fail
            refine bodyPost_ret (v := .agg #[.slice (some ⟨g, 0, none⟩) 0 cap']) (by simp [results, Tryd.results100, go_sem, d2]) rfl ⟨⟨g, cap', by rw [HD.out], ?_⟩, ?_⟩
            · exact HRT.out.setFresh HFR.out (p := ⟨w.heap.size + 1, 0, none⟩) (by show w.heap.size + 1 < _; omega) _
            · exact HB2.out.setCell (p := ⟨w.heap.size + 1, 0, none⟩) (by simp) _
end Go.Proofs.YtfaggdjoogpmmaaDoor

namespace Go.Proofs.YtfaggdjoogpmmaaDoor
open Go Go.RowKit Go.Shelf

theorem Own.nilCap {W : World} {B n cap : Nat} {a : Option Addr} {zs : List Int} (h : Own W B (.slice a n cap) zs) : a = none → cap = 0 := by
  intro e
  rcases h.parts with ⟨e2, _⟩ | ⟨g, c, e2, _⟩
  · cases e2; rfl
  · cases e2; cases e

theorem wp_appRow {W : World} {o : Oper} {a : Act} {K : Act → World → Prop} {Q : Exit → Act → World → Prop} (s x : Operand) (ho : o.op = .call { callee := .builtin .append, args := #[s, x], argTypes := #[22, 22] })
    {B : Nat} {v : Value} {zs ys : List Int} (hs : a.eval s = v) (hown : Own W B v zs) {ad : Option Addr} {cap : Nat} (hx : a.eval x = .slice ad ys.length cap) (hr : Row W ad ys cap) (hnil : ad = none → cap = 0)
    (hl : zs.length + ys.length < 1000000) (hbase : B ≤ W.heap.size)
    (h : ∀ a' cap' W', Own W' B (.slice a' (zs ++ ys).length cap') (zs ++ ys) → Below B W W' → K (a.put o.dst (.slice a' (zs.length + ys.length) cap')) W') : Oper.wp Tryd.prog o a W K Q := by
  obtain ⟨i0, hi, hz0, hz1, hz2⟩ := info_parts info_int
  cases ad with
  | none =>
    have hy : ys = [] := by
      cases ys with
      | nil => rfl
      | cons y ys =>
        obtain ⟨b, off, e, _⟩ := hr.el 0 (by simp)
        cases e
    subst hy
    obtain rfl := hnil rfl
    have hrun := run_append_owned_none (P := Tryd.prog) W B 22 o.type 3 i0 1 Tryd.underlying22 hi v zs.length (zs.map (Value.int .i64)) hown
    obtain ⟨a', cap', rfl, _⟩ := hown.row
    unfold Oper.wp execOp
    simp only [ho, resolve, invoke, builtin, Sem.run_bind, Sem.run_pure, Result.andThen_ok, List.map_toArray, List.map_cons, List.map_nil, hs, hx, List.length_nil, hrun]
    have := h a' cap' W (by simpa using hown) (Below.refl _ _)
    exact (show K (a.put o.dst (.slice a' zs.length cap')) W by simpa using this)
  | some ad =>
    refine wp_append_own W s x 22 ho B 3 i0 (.int .i64 0) 1 8 Tryd.underlying22 hi hz0 hz1 hz2 rfl (by decide) v zs.length (zs.map (Value.int .i64)) hs hown ad ys.length cap (ys.map (Value.int .i64)) hx (by simp) ?_ ?_ (by unfold maxLen; omega) (by omega) hbase ?_
    · intro j u hj
      rw [List.getElem?_map] at hj
      by_cases hlt : j < ys.length
      · obtain ⟨b, off, e, hc⟩ := hr.el j hlt
        cases e
        rw [List.getElem?_eq_getElem hlt] at hj
        simp only [Option.map_some, Option.some.injEq] at hj
        subst hj
        rw [M.el, List.getElem?_eq_getElem hlt] at hc
        by_cases hj0 : j = 0
        · subst hj0; simpa [Addr.add] using hc
        · simpa [Addr.add, hj0] using hc
      · rw [List.getElem?_eq_none (by omega)] at hj; simp at hj
    · intro u hu
      obtain ⟨z, _, rfl⟩ := List.mem_map.1 hu
      rfl
    · intro v' W' hown' hgrow _
      have ho2 : Own W' B v' (zs ++ ys) := by unfold Own; rw [List.length_append, List.map_append]; exact hown'
      have hB2 : Below B W W' := (Below.refl B W).grown hgrow hbase (fun k e => (World.ownsRow.lt hown k e).1)
      obtain ⟨a', cap', rfl, _⟩ := ho2.row
      have := h a' cap' W' ho2 hB2
      simpa using this

/-- **append(s, t...)**, s owned, t any slice, nil too. -/
theorem wpList_appRow {W : World} {ops : Array Oper} {rest : List Oper} {o : Oper} {a : Act} {Q : Exit → Act → World → Prop} (hgd : o.guard = none) (s x : Operand)
    (ho : o.op = .call { callee := .builtin .append, args := #[s, x], argTypes := #[22, 22] }) {B : Nat} {v : Value} {zs ys : List Int} (hs : a.eval s = v) (hown : Own W B v zs)
    {ad : Option Addr} {cap : Nat} (hx : a.eval x = .slice ad ys.length cap) (hr : Row W ad ys cap) (hnil : ad = none → cap = 0) (hl : zs.length + ys.length < 1000000) (hbase : B ≤ W.heap.size)
    (h : ∀ a' cap' W', Own W' B (.slice a' (zs ++ ys).length cap') (zs ++ ys) → Below B W W' → wpList Tryd.prog ops Q rest (a.put o.dst (.slice a' (zs.length + ys.length) cap')) W') : wpList Tryd.prog ops Q (o :: rest) a W :=
  wpList_plain hgd fun _ hK => wp_appRow s x ho hs hown hx hr hnil hl hbase fun a' c' W' h1 h2 => hK _ _ (h a' c' W' h1 h2)

/-- .. as a step of a region that draws its order. -/
theorem step_appRow {W : World} {ops : Array Oper} {o : Oper} {a : Act} {K : Act → World → Prop} {Q : Exit → Act → World → Prop} {E : Prop} (hgd : o.guard = none) (s x : Operand)
    (ho : o.op = .call { callee := .builtin .append, args := #[s, x], argTypes := #[22, 22] }) {B : Nat} {v : Value} {zs ys : List Int} (hs : a.eval s = v) (hown : Own W B v zs)
    {ad : Option Addr} {cap : Nat} (hx : a.eval x = .slice ad ys.length cap) (hr : Row W ad ys cap) (hnil : ad = none → cap = 0) (hl : zs.length + ys.length < 1000000) (hbase : B ≤ W.heap.size)
    (h : ∀ a' cap' W', Own W' B (.slice a' (zs ++ ys).length cap') (zs ++ ys) → Below B W W' → K (a.put o.dst (.slice a' (zs.length + ys.length) cap')) W') :
    if Region.wanted o (yielded ops a.tmps) = true then Oper.wp Tryd.prog o a W K Q else E := by
  have hw : Region.wanted o (yielded ops a.tmps) = true := by simp [Region.wanted, hgd]
  rw [if_pos hw]
  exact wp_appRow s x ho hs hown hx hr hnil hl hbase h
end Go.Proofs.YtfaggdjoogpmmaaDoor

namespace Go.Proofs.YtfaggdjoogpmmaaDoor
open Go Go.RowKit Go.Shelf

theorem M.less_step {V P c A B ex ey d c2 : Int} (h : V - P * c = A - B) (hd : d - 16777216 * c2 = ex - c - ey) : (V + P * d) - P * 16777216 * c2 = (A + P * ex) - (B + P * ey) := by
  have h1 : P * (d - 16777216 * c2) = P * (ex - c - ey) := by rw [hd]
  rw [Int.mul_sub, Int.mul_sub, Int.mul_sub, ← Int.mul_assoc] at h1
  omega

/-- In the last place nothing is borrowed. -/
theorem M.less_last {zs : List Int} {x y k m : Nat} {c d : Int} (hm : (dig x).length = m) (hk : k + 1 = m) (hyx : y ≤ x) (hlim : Lim (zs.take k)) (hl : zs.length = m)
    (hv : val (zs.take k) - 16777216 ^ k * c = val ((dig x).take k) - val ((dig y).take k)) (hd : d = el (dig x) k - c - el (dig y) k) : 0 ≤ d := by
  have h1 := val_take_succ' (dig x) k
  have h2 := val_take_succ' (dig y) k
  have hyl : (dig y).length ≤ m := by rw [← hm]; exact dig_len_le.2 (Nat.lt_of_le_of_lt hyx (dig_len_le.1 (Nat.le_refl _)))
  rw [List.take_of_length_le (by omega), val_dig] at h1
  rw [List.take_of_length_le (by omega), val_dig] at h2
  have h3 := val_lt hlim
  rw [List.length_take, Nat.min_eq_left (by omega)] at h3
  have hP := pow_pos k
  rcases Int.lt_or_le d 0 with hneg | hpos
  · exfalso
    have h4 : 16777216 ^ k * d ≤ 16777216 ^ k * (-1) := Int.mul_le_mul_of_nonneg_left (by omega) (by omega)
    rw [hd, Int.mul_sub, Int.mul_sub] at h4
    omega
  · exact hpos

theorem Own.setL {W : World} {B g L cap : Nat} {zs : List Int} (h : Own W B (.slice (some ⟨g, 0, none⟩) L cap) zs) (j : Nat) (u : Int) : Own (W.setCell ⟨g, j, none⟩ (.int .i64 u)) B (.slice (some ⟨g, 0, none⟩) L cap) (zs.set j u) := by
  have hl := h.len
  subst hl
  exact h.set j u

def LsRel (w w3 : World) (x y g cap : Nat) (i : Value) (W : World) : Prop :=
  ∃ (k : Nat) (zs : List Int) (c : Int), i = .int .i64 (k : Int) ∧ k ≤ (M.dig x).length ∧ zs.length = (M.dig x).length ∧ M.Lim (zs.take k) ∧ 0 ≤ c ∧ c ≤ 1 ∧ (k < (M.dig x).length → M.el zs k = M.el (M.dig x) k - c) ∧ (∀ j : Nat, k < j → M.el zs j = M.el (M.dig x) j) ∧
    (k = (M.dig x).length → c = 0) ∧ M.val (zs.take k) - 16777216 ^ k * c = M.val ((M.dig x).take k) - M.val ((M.dig y).take k) ∧ Own W (w.heap.size + 3) (.slice (some ⟨g, 0, none⟩) (M.dig x).length cap) zs ∧ Below w3.heap.size w3 W

theorem ls_pos {w w3 W : World} {x y g cap k : Nat} {zs : List Int} {c d : Int} (hk : k < (M.dig x).length) (hlen : zs.length = (M.dig x).length) (hlim : M.Lim (zs.take k)) (hrest : ∀ j : Nat, k < j → M.el zs j = M.el (M.dig x) j)
    (hval : M.val (zs.take k) - 16777216 ^ k * c = M.val ((M.dig x).take k) - M.val ((M.dig y).take k)) (hd : d = M.el (M.dig x) k - c - M.el (M.dig y) k) (h0 : 0 ≤ d) (h1 : d < 16777216)
    (hown : Own W (w.heap.size + 3) (.slice (some ⟨g, 0, none⟩) (M.dig x).length cap) zs) (hB : Below w3.heap.size w3 W) (hg : w3.heap.size ≤ g) :
    LsRel w w3 x y g cap (.int .i64 ((k : Int) + 1)) (W.setCell ⟨g, k, none⟩ (.int .i64 d)) := by
  have hkl : k < zs.length := by omega
  have ht := M.take_set_succ zs k d hkl
  refine ⟨k + 1, zs.set k d, 0, by go_num, by omega, by rw [List.length_set]; exact hlen, ?_, by omega, by omega, fun _ => ?_, fun j hj => ?_, fun _ => rfl, ?_, hown.setL k d, hB.setCell (p := ⟨g, k, none⟩) hg _⟩
  · rw [ht]; exact hlim.append (M.Lim.cons h0 h1 M.Lim.nil)
  · rw [M.el_set _ _ _ _ hkl, if_neg (by omega), hrest _ (by omega)]; omega
  · rw [M.el_set _ _ _ _ hkl, if_neg (by omega)]; exact hrest j (by omega)
  · have hl : (zs.take k).length = k := by rw [List.length_take]; omega
    rw [ht, M.val_append, hl, M.val_take_succ', M.val_take_succ']
    simp only [M.val, Int.mul_zero, Int.add_zero, Int.sub_zero]
    have := M.less_step (d := d) (c2 := 0) (ex := M.el (M.dig x) k) (ey := M.el (M.dig y) k) hval (by omega)
    rwa [Int.mul_zero, Int.sub_zero] at this

theorem ls_neg {w w3 W : World} {x y g cap k : Nat} {zs : List Int} {c d : Int} (hk : k + 1 < (M.dig x).length) (hlen : zs.length = (M.dig x).length) (hlim : M.Lim (zs.take k)) (hrest : ∀ j : Nat, k < j → M.el zs j = M.el (M.dig x) j)
    (hval : M.val (zs.take k) - 16777216 ^ k * c = M.val ((M.dig x).take k) - M.val ((M.dig y).take k)) (hd : d = M.el (M.dig x) k - c - M.el (M.dig y) k) (h0 : d < 0) (h1 : -16777216 ≤ d)
    (hown : Own W (w.heap.size + 3) (.slice (some ⟨g, 0, none⟩) (M.dig x).length cap) zs) (hB : Below w3.heap.size w3 W) (hg : w3.heap.size ≤ g) :
    LsRel w w3 x y g cap (.int .i64 ((k : Int) + 1)) (((W.setCell ⟨g, k, none⟩ (.int .i64 d)).setCell ⟨g, k, none⟩ (.int .i64 (d + 16777216))).setCell ⟨g, k + 1, none⟩ (.int .i64 (M.el (M.dig x) (k + 1) - 1))) := by
  have hkl : k < zs.length := by omega
  have ho := ((hown.setL k d).setL k (d + 16777216)).setL (k + 1) (M.el (M.dig x) (k + 1) - 1)
  rw [List.set_set] at ho
  have ht : ((zs.set k (d + 16777216)).set (k + 1) (M.el (M.dig x) (k + 1) - 1)).take (k + 1) = zs.take k ++ [d + 16777216] := by
    rw [List.take_set_of_le (Nat.le_refl _)]; exact M.take_set_succ zs k _ hkl
  have hk1 : k + 1 < (zs.set k (d + 16777216)).length := by rw [List.length_set]; omega
  refine ⟨k + 1, _, 1, by go_num, by omega, by rw [List.length_set, List.length_set]; exact hlen, ?_, by omega, by omega, fun _ => ?_, fun j hj => ?_, fun h => by omega, ?_, ho, ((hB.setCell (p := ⟨g, k, none⟩) hg _).setCell (p := ⟨g, k, none⟩) hg _).setCell (p := ⟨g, k + 1, none⟩) hg _⟩
  · rw [ht]; exact hlim.append (M.Lim.cons (by omega) (by omega) M.Lim.nil)
  · rw [M.el_set _ _ _ _ hk1, if_pos rfl]
  · rw [M.el_set _ _ _ _ hk1, if_neg (by omega), M.el_set _ _ _ _ hkl, if_neg (by omega)]; exact hrest j (by omega)
  · have hl : (zs.take k).length = k := by rw [List.length_take]; omega
    rw [ht, M.val_append, hl, M.val_take_succ', M.val_take_succ']
    simp only [M.val, Int.mul_zero, Int.add_zero]
    have := M.less_step (d := d + 16777216) (c2 := 1) (ex := M.el (M.dig x) k) (ey := M.el (M.dig y) k) hval (by omega)
    rw [Int.mul_one] at this
    rw [Int.pow_succ, Int.mul_one]
    exact this

def LessPost (w : World) (n : Nat) (e : Ending) (W : World) : Prop :=
  (∃ a c, e = .returned (.agg #[.slice a (M.dig n).length c]) ∧ Row W a (M.dig n) c ∧ (a = none → c = 0) ∧ Fresh (w.heap.size + 1) a (M.dig n)) ∧ Below w.heap.size w W

set_option maxRecDepth 100000 in
set_option maxHeartbeats 2000000 in
/-- **ref01.less** -/
theorem rless_any (a b : Option Addr) (ca cb x y : Nat) (w : World) (hx : (M.dig x).length ≤ 300) (hyx : y ≤ x) (hA : Row w a (M.dig x) ca) (hn : a = none → ca = 0) (hB : Row w b (M.dig y) cb) :
    Calls Tryd.prog 101 #[.agg #[.slice a (M.dig x).length ca], .agg #[.slice b (M.dig y).length cb]] w (LessPost w (x - y)) := by
  have hb3 := boxes_below w (.slice a (M.dig x).length ca) (.slice b (M.dig y).length cb)
  have hs3 := boxes_size w (.slice a (M.dig x).length ca) (.slice b (M.dig y).length cb)
  obtain ⟨c0, c1, c2, f2⟩ := boxes_cells w (.slice a (M.dig x).length ca) (.slice b (M.dig y).length cb)
  have HA := Lib.hid (hA.below hb3)
  have HB := Lib.hid (hB.below hb3)
  have HB3 := Lib.hid hb3
  have HC := Lib.hid (And.intro c1 (And.intro c2 f2))
  have HN := Lib.hid hn
  clear hA hB hb3 c1 c2 f2 hn
  go_enter Tryd.func101, Tryd.ntmps101
  go_wp2_with (at_builtin; refine wpList_appRow rfl _ _ rfl rfl (Own.nil _ (w.heap.size + 3)) rfl HA.out HN.out (by simp; omega) (by simp) ?_; intro a' cap' W' hown' hb'; have HO := Lib.hid hown'; have HBW := Lib.hid hb'; clear hown' hb' c0)
  generalize hw3 : (((w.alloc (.cells #[.slice a (M.dig x).length ca] 24)).alloc (.cells #[.slice b (M.dig y).length cb] 24)).alloc (.cells #[.slice none 0 0] 24)) = w3 at HBW
  obtain rfl : boxes w (.slice a (M.dig x).length ca) (.slice b (M.dig y).length cb) = w3 := hw3
  generalize boxes w (.slice a (M.dig x).length ca) (.slice b (M.dig y).length cb) = w3 at *
  rcases Nat.eq_zero_or_pos (M.dig x).length with h0 | h0
  · have hxz : x - y = 0 := by
      have h1 := (M.dig_len_le (n := x) (k := 0)).1 (by omega)
      omega
    have HXZ := Lib.hid (show M.dig (x - y) = [] by rw [hxz]; exact M.dig_zero)
    have h := HO.out
    have hdx : M.dig x = [] := List.eq_nil_of_length_eq_zero h0
    rw [hdx] at h
    have hnc := h.nilCap
    have HNC := Lib.hid hnc
    have HRO := Lib.hid (show Row W' a' [] cap' from h.rowAt)
    have hbw := HBW.out
    rw [← hs3] at hbw
    have HBB := Lib.hid (HB3.out.trans (hbw.mono HB3.out.size))
    have c2 := cell_below hbw HC.out.2.1
    have f2 := frozen_below hbw HC.out.2.1 HC.out.2.2
    rw [h0] at *
    clear h hdx hnc hxz
    go_loop [6] (fun i => i = .int .i64 0) (fun i => 0)
    case atStart => rfl
    case round =>
      subst hrel
      go_wp2_with fail
      go_loop [7] (fun i => i = .int .i64 0) (fun i => 0)
      case atStart => rfl
      case round =>
        subst hrel
        go_wp2_with fail
        refine bodyPost_ret (v := .agg #[.slice a' 0 cap']) (by simp [results, Tryd.results101, go_sem, c2]) rfl ⟨⟨a', cap', by rw [HXZ.out]; rfl, ?_, HNC.out, ?_⟩, ?_⟩
        · rw [HXZ.out]
          refine HRO.out.setFresh (B := w.heap.size + 3) (fun b off _ hl => absurd hl (by simp)) (p := ⟨w.heap.size + 1 + 1, 0, none⟩) (by show w.heap.size + 1 + 1 < _; omega) _
        · rw [HXZ.out]; exact fun b off _ hl => absurd hl (by simp)
        · exact HBB.out.setCell (p := ⟨w.heap.size + 1 + 1, 0, none⟩) (by show _ ≤ w.heap.size + 1 + 1; omega) _
  · obtain ⟨g, rfl, hgB, hgW, hroom, hmost, _, _⟩ := HO.out.at2 0 (by simpa using h0)
    have hO := HO.out
    simp only [List.nil_append] at hO hroom
    have HO2 := Lib.hid hO
    have HS3 := Lib.hid hs3
    clear HO hO hgW
    go_loopw [6] (fun i wr => LsRel w w3 x y g cap' i wr) (fun i _ => (M.dig x).length - (intOf i).toNat)
    case atStart => exact ⟨0, M.dig x, 0, rfl, Nat.zero_le _, rfl, by simpa using M.Lim.nil, by omega, by omega, fun _ => by omega, fun _ _ => rfl, fun h => rfl, by simp [M.val], HO2.out, by rw [HS3.out]; exact HBW.out⟩
    case round =>
      clear HO2 HBW
      obtain ⟨k, zs, c, rfl, hk, hlen, hlim, hc0, hc1, hel, hrest, hlast, hval, hown, hbW⟩ := hrel
      have c1 := cell_below hbW HC.out.1
      have c2 := cell_below hbW HC.out.2.1
      have f2 := frozen_below hbW HC.out.2.1 HC.out.2.2
      have HBW := Lib.hid hbW
      have HLN := Lib.hid hlen
      have HLIM := Lib.hid hlim
      have HVAL := Lib.hid hval
      have HEL := Lib.hid hel
      have HREST := Lib.hid hrest
      have HLAST := Lib.hid hlast
      have HOWN := Lib.hid hown
      have HLB := Lib.hid (rlimb_any b (M.dig y) cb k wr.drew ((HB.out.below hbW).drewN 1))
      have hsW : w.heap.size + 3 ≤ wr.heap.size := by have h1 := hbW.size; have h2 := HS3.out; omega
      clear hlen hlim hval hel hrest hlast hown hbW hs3
      by_cases hlt : k < (M.dig x).length
      · obtain ⟨_, e', _, _, _, _, hcz, hfz⟩ := HOWN.out.at2 k (by rw [HLN.out]; exact hlt)
        cases e'
        have hex := (M.lim_dig x).get k
        have hey := (M.lim_dig y).get k
        rw [HEL.out hlt] at hcz
        obtain ⟨ex, hex'⟩ : ∃ ex, M.el (M.dig x) k = ex := ⟨_, rfl⟩
        obtain ⟨ey, hey'⟩ : ∃ ey, M.el (M.dig y) k = ey := ⟨_, rfl⟩
        rw [hex'] at hex hcz
        rw [hey'] at hey HLB
        obtain ⟨e, he⟩ : ∃ e, ex - c = e := ⟨_, rfl⟩
        rw [he] at hcz
        obtain ⟨d, hd⟩ : ∃ d, e - ey = d := ⟨_, rfl⟩
        have hwd : IntKind.i64.wrap (e - ey) = d := by rw [hd, IntKind.wrap_i64]; omega
        have hd0 : -16777216 ≤ d := by omega
        have hd1 : d < 16777216 := by omega
        have hdd : d = ex - c - ey := by omega
        have HDD := Lib.hid hdd
        have HEX := Lib.hid hex'
        have HEY := Lib.hid hey'
        have hgw : g < wr.heap.size := lt_of_cell hcz
        have hki : (k : Int) < ((M.dig x).length : Int) := by omega
        have hk0 : (0 : Int) ≤ (k : Int) := by omega
        clear hex' hey' he hd hdd
        have hbd : Below wr.heap.size wr wr.drew := belowN (Below.refl _ _) 1
        by_cases hneg : d < 0
        · have hk1 : k + 1 < (M.dig x).length := by
            rcases Nat.lt_or_ge (k + 1) (M.dig x).length with h | h
            · exact h
            · have := M.less_last (c := c) (d := d) rfl (by omega : k + 1 = (M.dig x).length) hyx HLIM.out HLN.out HVAL.out (by rw [HDD.out, HEX.out, HEY.out])
              omega
          have hex1 := (M.lim_dig x).get (k + 1)
          obtain ⟨_, e', _, _, _, _, hcz1, hfz1⟩ := HOWN.out.at2 (k + 1) (by rw [HLN.out]; exact hk1)
          cases e'
          rw [HREST.out (k + 1) (by omega)] at hcz1
          obtain ⟨x1, hx1⟩ : ∃ x1, M.el (M.dig x) (k + 1) = x1 := ⟨_, rfl⟩
          rw [hx1] at hcz1 hex1
          have HX1 := Lib.hid hx1
          have hdn : decide (d < 0) = true := decide_eq_true hneg
          clear hx1
          go_wp2_with fail
          go_region_with ((go_at_call 72; (with_reducible refine HLB.out.mono ?_); rintro e9 wq ⟨rfl, hbq⟩; have hczq := cell_below hbq hcz; have hfzq := frozen_below hbq hcz hfz; have hczq1 := cell_below hbq hcz1; have hfzq1 := frozen_below hbq hcz1 hfz1))
          all_goals
            have hbwq := hbd.trans (hbq.mono (Nat.le_refl _))
            have HOQ := Lib.hid (HOWN.out.below hbwq)
            have HBQ := Lib.hid (HBW.out.trans (hbwq.mono (by have := HBW.out.size; omega)))
            clear hwd hbd hbq hbwq c1 c2 f2 hcz hfz hcz1 hfz1
            have HGG := Lib.hid (show w3.heap.size ≤ g by rw [HS3.out]; exact hgB)
            go_wp2_with fail
            go_roundw
            case rel => rw [← HX1.out]; exact ls_neg hk1 HLN.out HLIM.out HREST.out HVAL.out (by rw [HEX.out, HEY.out]; exact HDD.out) hneg hd0 HOQ.out HBQ.out HGG.out
            case measure => simp [intOf]; omega
        · have hpos : 0 ≤ d := by omega
          have hdn : decide (d < 0) = false := decide_eq_false hneg
          go_wp2_with fail
          go_region_with ((go_at_call 72; (with_reducible refine HLB.out.mono ?_); rintro e9 wq ⟨rfl, hbq⟩; have hczq := cell_below hbq hcz; have hfzq := frozen_below hbq hcz hfz))
          all_goals
            have hbwq := hbd.trans (hbq.mono (Nat.le_refl _))
            have HOQ := Lib.hid (HOWN.out.below hbwq)
            have HBQ := Lib.hid (HBW.out.trans (hbwq.mono (by have := HBW.out.size; omega)))
            clear hwd hbd hbq hbwq c1 c2 f2 hcz hfz
            have HGG := Lib.hid (show w3.heap.size ≤ g by rw [HS3.out]; exact hgB)
            go_wp2_with fail
            go_roundw
            case rel => exact ls_pos hlt HLN.out HLIM.out HREST.out HVAL.out (by rw [HEX.out, HEY.out]; exact HDD.out) hpos hd1 HOQ.out HBQ.out HGG.out
            case measure => simp [intOf]; omega
      · have hk' : k = (M.dig x).length := by omega
        have hv := HVAL.out
        have hcz := HLAST.out hk'
        have hlim2 := HLIM.out
        have hll := HLN.out
        rw [hcz, List.take_of_length_le (by omega), List.take_of_length_le (by omega), List.take_of_length_le (by rw [hk']; exact M.dig_len_le.2 (Nat.lt_of_le_of_lt hyx (M.dig_len_le.1 (Nat.le_refl _)))), M.val_dig, M.val_dig, Int.mul_zero, Int.sub_zero] at hv
        rw [List.take_of_length_le (by omega)] at hlim2
        have htr : M.trimL zs = M.dig (x - y) := trim_dig hlim2 (by rw [hv]; omega)
        have HTR := Lib.hid htr
        have HROW := Lib.hid (show Row wr (some ⟨g, 0, none⟩) zs cap' from by have h := HOWN.out; rw [← hll] at h; exact h.rowAt)
        have HB2 := Lib.hid (HB3.out.trans (HBW.out.mono HB3.out.size))
        have hm999 : (M.dig x).length ≤ 300 := hx
        clear htr hlim2 hv hcz hll c1 HOWN HBW HVAL HEL HREST HLAST HLIM HLB HA HB HC hk hc0 hc1
        obtain ⟨m, hm⟩ : ∃ m, (M.dig x).length = m := ⟨_, rfl⟩
        have HM := Lib.hid hm
        rw [hm] at HLN hroom hk' hlt hm999
        rw [hm]
        clear hm hx h0
        go_wp2_with fail
        go_loop [7] (fun i => FitRel zs i) (fun i => (intOf i).toNat)
        case atStart => exact ⟨m, rfl, by rw [HLN.out]; exact Nat.le_refl _, fun j hj => M.el_ge (by rw [HLN.out]; exact hj)⟩
        case round =>
          obtain ⟨k2, rfl, hk2, hz⟩ := hrel
          have HZ := Lib.hid hz
          rw [HLN.out] at hk2
          clear hz
          by_cases hgo : 0 < k2 ∧ M.el zs (k2 - 1) = 0
          · obtain ⟨h0, he⟩ := hgo
            have hc := HROW.out.cell (k2 - 1) (by rw [HLN.out]; omega)
            rw [he, Nat.zero_add] at hc
            have e1 : ((k2 : Int) - 1).toNat = k2 - 1 := by omega
            have HE := Lib.hid he
            have ecast : (k2 : Int) - 1 = ((k2 - 1 : Nat) : Int) := by omega
            have HEC := Lib.hid ecast
            clear he ecast
            go_wp2_with fail
            go_round
            case rel => exact ⟨k2 - 1, by rw [HEC.out], by rw [HLN.out]; omega, fun j hj => by
              rcases Nat.lt_or_ge j k2 with h | h
              · rw [show j = k2 - 1 by omega]; exact HE.out
              · exact HZ.out j h⟩
            case measure => simp [intOf]; omega
          · have hst : (M.trimL zs).length = k2 := trimL_stop (by rw [HLN.out]; exact hk2) HZ.out (by
              rcases Nat.eq_zero_or_pos k2 with h | h
              · exact .inl h
              · exact .inr (fun e => hgo ⟨h, e⟩))
            have htk : zs.take k2 = M.dig (x - y) := by rw [← HTR.out, ← hst, M.trimL_take]
            have hdl : (M.dig (x - y)).length = k2 := by rw [← HTR.out]; exact hst
            have hfin : ∀ (P : Prop), (0 < k2 → (decide (M.el zs (k2 - 1) = 0) = false) → P) → (k2 = 0 → P) → P := fun P h1 h2 => by
              rcases Nat.eq_zero_or_pos k2 with h | h
              · exact h2 h
              · exact h1 h (decide_eq_false fun e => hgo ⟨h, e⟩)
            have hrt := HROW.out.take k2
            rw [htk] at hrt
            have HRT := Lib.hid hrt
            have hfr : Fresh (w.heap.size + 3) (some ⟨g, 0, none⟩) (M.dig (x - y)) := fun b off e _ => by cases e; exact hgB
            have HFR := Lib.hid hfr
            have hcell := HB2.out.size
            have d2 := c2
            clear hst htk hgo hrt hfr
            subst hdl
            refine hfin _ ?_ ?_
            · intro h0 hne
              have hc := HROW.out.cell ((M.dig (x - y)).length - 1) (by rw [HLN.out]; omega)
              rw [Nat.zero_add] at hc
              have e1 : (((M.dig (x - y)).length : Int) - 1).toNat = (M.dig (x - y)).length - 1 := by omega
              have hne2 : (M.el zs ((M.dig (x - y)).length - 1) == 0) = false := by rw [beq_eq_false_iff_ne]; exact of_decide_eq_false hne
              obtain ⟨z, hz⟩ : ∃ z, M.el zs ((M.dig (x - y)).length - 1) = z := ⟨_, rfl⟩
              rw [hz] at hc hne2
              clear hne hfin hz
              go_wp2_with fail
              refine bodyPost_ret (v := .agg #[.slice (some ⟨g, 0, none⟩) (M.dig (x - y)).length cap']) (by simp [results, Tryd.results101, go_sem, d2]) rfl ⟨⟨_, cap', rfl, ?_, (fun h => by cases h), ?_⟩, ?_⟩
              · exact HRT.out.setFresh HFR.out (p := ⟨w.heap.size + 1 + 1, 0, none⟩) (by show w.heap.size + 1 + 1 < _; omega) _
              · exact fun b off e hl => Nat.le_trans (by omega) (HFR.out b off e hl)
              · exact HB2.out.setCell (p := ⟨w.heap.size + 1 + 1, 0, none⟩) (by show _ ≤ w.heap.size + 1 + 1; omega) _
            · intro h0
              have hd0 : ((M.dig (x - y)).length : Int) = 0 := by rw [h0]; rfl
              have HD := Lib.hid h0
              rw [hd0]
              clear hfin h0 hd0 hk2 HZ
              go_wp2_with fail
              refine bodyPost_ret (v := .agg #[.slice (some ⟨g, 0, none⟩) 0 cap']) (by simp [results, Tryd.results101, go_sem, d2]) rfl ⟨⟨_, cap', by rw [HD.out], ?_, (fun h => by cases h), ?_⟩, ?_⟩
              · exact HRT.out.setFresh HFR.out (p := ⟨w.heap.size + 1 + 1, 0, none⟩) (by show w.heap.size + 1 + 1 < _; omega) _
              · exact fun b off e hl => Nat.le_trans (by omega) (HFR.out b off e hl)
              · exact HB2.out.setCell (p := ⟨w.heap.size + 1 + 1, 0, none⟩) (by show _ ≤ w.heap.size + 1 + 1; omega) _
end Go.Proofs.YtfaggdjoogpmmaaDoor

namespace Go.Proofs.YtfaggdjoogpmmaaDoor.M

/-- The number that the limbs from k on make. -/
def xs (x k : Nat) : Nat := (val ((dig x).drop k)).toNat
theorem xs_int (x k : Nat) : ((xs x k : Nat) : Int) = val ((dig x).drop k) := Int.toNat_of_nonneg (val_nonneg ((lim_dig x).drop k))
theorem xs_zero (x : Nat) : xs x 0 = x := by
  have := xs_int x 0
  rw [List.drop_zero, val_dig] at this
  omega
theorem xs_end {x k : Nat} (h : (dig x).length ≤ k) : xs x k = 0 := by
  have := xs_int x k
  rw [List.drop_of_length_le h] at this
  simp only [val] at this
  omega
theorem xs_step {x k : Nat} (h : k < (dig x).length) : xs x k = 16777216 * xs x (k + 1) + (el (dig x) k).toNat := by
  have h1 := xs_int x k
  have h2 := xs_int x (k + 1)
  have h3 := (lim_dig x).get k
  rw [val_drop_succ _ _ h, ← h2] at h1
  omega
theorem div_step {X X' y d : Nat} (hy : 0 < y) (hd : d < 16777216) (hX : X = 16777216 * X' + d) :
    X / y = 16777216 * (X' / y) + (d + 16777216 * (X' % y)) / y ∧ X % y = (d + 16777216 * (X' % y)) % y ∧ (d + 16777216 * (X' % y)) / y < 16777216 := by
  have h1 := Nat.div_add_mod X' y
  have h2 := Nat.mod_lt X' hy
  have h3 : X = y * (16777216 * (X' / y)) + (d + 16777216 * (X' % y)) := by
    rw [Nat.mul_left_comm]
    omega
  refine ⟨?_, ?_, ?_⟩
  · rw [h3, Nat.mul_add_div hy]
  · rw [h3, Nat.mul_add_mod]
  · rw [Nat.div_lt_iff_lt_mul hy]; omega
theorem q_step {zs : List Int} {k : Nat} (u : Int) (hk : k < zs.length) : val ((zs.set k u).drop k) = u + 16777216 * val (zs.drop (k + 1)) := by
  rw [val_drop_succ _ k (by rw [List.length_set]; exact hk), el_set _ _ _ _ hk, if_pos rfl, List.drop_set_of_lt (by omega)]
theorem rest_dig {d : Int} {r : Nat} (h0 : 0 ≤ d) (h1 : d < 16777216) : trimL ([d] ++ dig r) = dig (d.toNat + 16777216 * r) := by
  refine trim_dig (Lim.cons h0 h1 (lim_dig r)) ?_
  simp only [List.singleton_append, val, val_dig]
  omega
/-- A number below y times 16777216 has at most one limb more than y. -/
theorem rest_len {d : Int} {r y k : Nat} (h1 : d < 16777216) (hr : r < y) (hy : (dig y).length ≤ k) : (dig (d.toNat + 16777216 * r)).length ≤ k + 1 := by
  rw [dig_len_le] at *
  rw [Nat.pow_succ]
  omega
end Go.Proofs.YtfaggdjoogpmmaaDoor.M
