/- nat.Cmp. -/
import Derived.Lib.Small
import Derived.Test.YtamniclnhenmgaaDoorBack
import Derived.Test.YtamniclnhenmgaaDoorOwn
namespace Go.Proofs.YtamniclnhenmgaaDoor
open Go Go.RowKit Go.Shelf
attribute [local go_sem] Oper.semAt_some

theorem lt_of_top {zs ys : List Int} (hz : M.Lim zs) (hy : M.Lim ys) (hl : zs.length = ys.length) (k : Nat) (hk : k < zs.length) (he : ∀ j, k < j → M.el zs j = M.el ys j) (h : M.el zs k < M.el ys k) : M.val zs < M.val ys := by
  have e1 : M.val zs = M.val (zs.take k) + 16777216 ^ k * (M.el zs k + 16777216 * M.val (zs.drop (k + 1))) := by
    have := M.val_append (zs.take k) (zs.drop k)
    rw [List.take_append_drop, List.length_take, Nat.min_eq_left (by omega), M.drop_el _ _ hk] at this
    rw [this]; rfl
  have e2 : M.val ys = M.val (ys.take k) + 16777216 ^ k * (M.el ys k + 16777216 * M.val (zs.drop (k + 1))) := by
    have hd : zs.drop (k + 1) = ys.drop (k + 1) := M.ext_el (by simp [hl]) fun j _ => by rw [M.el_drop, M.el_drop]; exact he _ (by omega)
    have := M.val_append (ys.take k) (ys.drop k)
    rw [List.take_append_drop, List.length_take, Nat.min_eq_left (by omega), M.drop_el _ _ (by omega : k < ys.length)] at this
    rw [this, hd]; rfl
  have b1 : M.val (zs.take k) < 16777216 ^ k := M.val_le_of_len (hz.take k) (by rw [List.length_take]; omega)
  have b2 := M.val_nonneg (hy.take k)
  have b3 : (16777216 : Int) ^ k * (M.el zs k + 16777216 * M.val (zs.drop (k + 1)) + 1) ≤ 16777216 ^ k * (M.el ys k + 16777216 * M.val (zs.drop (k + 1))) := Int.mul_le_mul_of_nonneg_left (by omega) (Int.le_of_lt (M.pow_pos k))
  rw [Int.mul_add, Int.mul_one] at b3
  rw [e1, e2]
  omega

theorem compare_lt {x y : Int} (h : x < y) : Lib.compareInt x y = -1 := by unfold Lib.compareInt; rw [if_pos h]
theorem compare_gt {x y : Int} (h : y < x) : Lib.compareInt x y = 1 := by unfold Lib.compareInt; rw [if_neg (by omega), if_pos h]
theorem compare_eq {x y : Int} (h : x = y) : Lib.compareInt x y = 0 := by subst h; unfold Lib.compareInt; simp
theorem compare_ne {x y : Int} (h : x ≠ y) : Lib.compareInt x y ≠ 0 := by
  rcases Int.lt_or_gt_of_ne h with h | h
  · rw [compare_lt h]; decide
  · rw [compare_gt h]; decide

/-- The comparison of numbers is that of their lengths, where they differ. -/
theorem compare_len (x y : Nat) (h : (M.dig x).length ≠ (M.dig y).length) : Lib.compareInt ((M.dig x).length : Int) ((M.dig y).length : Int) = Lib.compareInt (x : Int) (y : Int) := by
  have hlt : ∀ a b : Nat, (M.dig a).length < (M.dig b).length → a < b := by
    intro a b hl
    by_cases hab : a < b
    · exact hab
    · have h1 : a < 16777216 ^ (M.dig a).length := M.dig_len_le.1 (Nat.le_refl _)
      have h2 : (M.dig b).length ≤ (M.dig a).length := M.dig_len_le.2 (by omega)
      omega
  rcases Nat.lt_or_gt_of_ne h with h | h
  · rw [compare_lt (by omega), compare_lt (by have := hlt x y h; omega)]
  · rw [compare_gt (by omega), compare_gt (by have := hlt y x h; omega)]
/-- .. and that of the highest limb in which they differ. -/
theorem compare_top (x y : Nat) (h : (M.dig x).length = (M.dig y).length) (k : Nat) (hk : k < (M.dig x).length) (he : ∀ j, k < j → M.el (M.dig x) j = M.el (M.dig y) j) (hne : M.el (M.dig x) k ≠ M.el (M.dig y) k) : Lib.compareInt (M.el (M.dig x) k) (M.el (M.dig y) k) = Lib.compareInt (x : Int) (y : Int) := by
  rcases Int.lt_or_gt_of_ne hne with h' | h'
  · have := lt_of_top (M.lim_dig x) (M.lim_dig y) h k hk he h'
    rw [M.val_dig, M.val_dig] at this
    rw [compare_lt h', compare_lt this]
  · have := lt_of_top (M.lim_dig y) (M.lim_dig x) h.symm k (by omega) (fun j hj => (he j hj).symm) h'
    rw [M.val_dig, M.val_dig] at this
    rw [compare_gt h', compare_gt this]
theorem compare_same (x y : Nat) (h : (M.dig x).length = (M.dig y).length) (he : ∀ j : Nat, M.el (M.dig x) j = M.el (M.dig y) j) : Lib.compareInt (x : Int) (y : Int) = 0 :=
  compare_eq (by rw [M.dig_inj (M.ext_el h fun k _ => he k)])

set_option maxRecDepth 100000 in
set_option maxHeartbeats 2000000 in
theorem cmp_of (hC : ∀ (x y : Int) (w : World), Calls Tryd.prog 84 #[.int .i64 x, .int .i64 y] w fun e w' => e = .returned (.int .i64 (Lib.compareInt x y)) ∧ w' = w) (a b : Option Addr) (ca cb x y : Nat) (w : World) (hA : Row w a (M.dig x) ca) (hB : Row w b (M.dig y) cb) :
    Calls Tryd.prog 41 #[.agg #[.slice a (M.dig x).length ca], .agg #[.slice b (M.dig y).length cb]] w fun e W' => e = .returned (.int .i64 (Lib.compareInt (x : Int) (y : Int))) ∧ Below w.heap.size w W' := by
  have HC := Lib.hid hC
  clear hC
  refine (callsIn_wide (n := 6)).1 ?_
  refine callsIn_of_wp_marks Tryd.func41 rfl trivial ?_ rfl
  simp only [Tryd.ntmps41, List.size_toArray, List.length_cons, List.length_nil, Nat.reduceAdd, Nat.reduceSub, Array.replicate_succ, Array.replicate_zero, List.push_toArray, List.append_toArray, List.nil_append, List.cons_append]
  have c0 := cell_new w (.slice a (M.dig x).length ca) 24
  have c1 := cell_new (w.alloc (.cells #[.slice a (M.dig x).length ca] 24)) (.slice b (M.dig y).length cb) 24
  have c2 := cell_new ((w.alloc (.cells #[.slice a (M.dig x).length ca] 24)).alloc (.cells #[.slice b (M.dig y).length cb] 24)) (.int .i64 0) 3
  have f2 := frozen_new ((w.alloc (.cells #[.slice a (M.dig x).length ca] 24)).alloc (.cells #[.slice b (M.dig y).length cb] 24)) (.int .i64 0) 3
  simp only [World.size_alloc] at c1 c2 f2
  have d1 := cell_later (.cells #[.int .i64 0] 3) c1
  have d0 := cell_later (.cells #[.int .i64 0] 3) (cell_later (.cells #[.slice b (M.dig y).length cb] 24) c0)
  have HD := Lib.hid (And.intro d0 (And.intro d1 (And.intro c2 f2)))
  clear d0 d1 c2 f2 c0 c1
  have hB0 : Below w.heap.size w (((w.alloc (.cells #[.slice a (M.dig x).length ca] 24)).alloc (.cells #[.slice b (M.dig y).length cb] 24)).alloc (.cells #[.int .i64 0] 3)) := (((Below.refl _ w).alloc (Nat.le_refl _) _).alloc (by simp) _).alloc (by simp; omega) _
  have HB0 := Lib.hid hB0
  clear hB0
  by_cases hl : (M.dig x).length = (M.dig y).length
  · have hcmp : Lib.compareInt ((M.dig x).length : Int) ((M.dig y).length : Int) = 0 := compare_eq (by rw [hl])
    have HL := Lib.hid hl
    clear hl
    gi_wp2_with fail
    refine ⟨trivial, ?_⟩
    refine (callsIn_wide.2 (HC.out _ _ _)).mono ?_
    rintro e w' ⟨rfl, rfl⟩
    rw [hcmp]
    gi_wp2_with fail
    refine ⟨trivial, ?_⟩
    refine (callsIn_wide.2 (backward_any _ _ _ _)).mono ?_
    rintro e w' ⟨rfl, rfl⟩
    gi_wp2_with fail
    have d3 := cell_new (((w.alloc (.cells #[.slice a (M.dig x).length ca] 24)).alloc (.cells #[.slice b (M.dig y).length cb] 24)).alloc (.cells #[.int .i64 0] 3)) (.slice a (M.dig x).length ca) 22
    simp only [World.size_alloc] at d3
    refine wpIn_back (n := 6) (by omega) (Bs := w.heap.size + 1 + 1 + 1) rfl rfl a (M.dig x).length ca (by have := hA.room; have := hA.most; omega) (fun j => M.el (M.dig x) j)
      (fun k W => ((∀ j : Nat, k ≤ j → M.el (M.dig x) j = M.el (M.dig y) j) ∧ W.cell? ⟨w.heap.size + 1, 0, none⟩ = some (.slice b (M.dig y).length cb) ∧ W.cell? ⟨w.heap.size + 1 + 1, 0, none⟩ = some (.int .i64 0) ∧ W.frozen? ⟨w.heap.size + 1 + 1, 0, none⟩ = false ∧ W.cell? ⟨w.heap.size + 1 + 1 + 1, 0, none⟩ = some (.slice a (M.dig x).length ca)) ∧ Below w.heap.size w W)
      (fun c k W => (c = .ret ∧ W.cell? ⟨w.heap.size + 1 + 1, 0, none⟩ = some (.int .i64 (Lib.compareInt (x : Int) (y : Int)))) ∧ Below w.heap.size w W)
      (OwnFrom.and (Own.from (fun s A B row hs hg hr => ⟨hs.1, cell_kept hs.2.1 hg hr, cell_kept hs.2.2.1 hg hr, (frozen_kept hs.2.2.1 hg hr).trans hs.2.2.2.1, cell_kept hs.2.2.2.2 hg hr⟩) _) (ownFrom_below (Nat.le_refl _) (by simp; omega)))
      (fun c => OwnFrom.and (Own.from (fun s A B row hs hg hr => ⟨hs.1, cell_kept hs.2 hg hr⟩) _) (ownFrom_below (Nat.le_refl _) (by simp; omega)))
      ⟨⟨fun j hj => by rw [M.el_ge hj, M.el_ge (by rw [← HL.out]; exact hj)], cell_later _ HD.out.2.1, cell_later _ HD.out.2.2.1, frozen_later _ HD.out.2.2.1 HD.out.2.2.2, d3⟩, HB0.out.alloc (by simp; omega) _⟩
      (fun k W h => h.1.2.2.2.2)
      (fun k W h hk => by
        obtain ⟨b, off, e, hc⟩ := hA.el k hk
        exact ⟨b, off, e, (h.2.cell (p := ⟨b, off + k, none⟩) (lt_of_cell hc)).trans hc⟩)
      (fun k => { tmps := List.toArray ((.agg #[.slice a (M.dig x).length ca]) :: (.agg #[.slice b (M.dig y).length cb]) :: (.pointer (some ⟨w.heap.size, 0, none⟩)) :: (.pointer (some ⟨w.heap.size + 1, 0, none⟩)) :: (.pointer (some ⟨w.heap.size + 1 + 1, 0, none⟩)) :: (.int .i64 0) :: (.int .i64 (k : Int)) :: (.int .i64 (M.el (M.dig x) k)) :: undef :: (.pointer (some ⟨w.heap.size, 0, none⟩)) :: (.slice a (M.dig x).length ca) :: (.int .i64 ((M.dig x).length : Int)) :: (.pointer (some ⟨w.heap.size + 1, 0, none⟩)) :: (.slice b (M.dig y).length cb) :: (.int .i64 ((M.dig y).length : Int)) :: (.int .i64 0) :: (.int .i64 0) :: (.bool false) :: undef :: (.pointer (some ⟨w.heap.size, 0, none⟩)) :: (.slice a (M.dig x).length ca) :: (.func (.func 110) #[] #[.pointer (some ⟨w.heap.size + 1 + 1 + 1, 0, none⟩)]) :: (.int .i64 (k : Int)) :: (.int .i64 (M.el (M.dig x) k)) :: undef :: undef :: undef :: undef :: undef :: undef :: undef :: undef :: undef :: undef :: []), defers := [] }) ?assign ?body ?done ?stop
    case assign =>
      intro l k W K hk hK
      gi_wp2
      exact hK
    case body =>
      rintro l k W hl hrec ⟨⟨hz, hc1, hc2, hf2, hc3⟩, hB'⟩ hk
      have hroom := hB.room
      have hmost := hB.most
      have hky : k < (M.dig y).length := by rw [← HL.out]; exact hk
      obtain ⟨bb, off, rfl, hcy0⟩ := hB.el k hky
      have hcy := (hB'.cell (p := ⟨bb, off + k, none⟩) (lt_of_cell hcy0)).trans hcy0
      have HZ := Lib.hid hz
      clear hz hcy0
      by_cases hne : M.el (M.dig x) k = M.el (M.dig y) k
      · have hc := compare_eq hne
        have HN := Lib.hid hne
        clear hne
        gi_wp2_with fail
        refine ⟨trivial, ?_⟩
        refine (callsIn_wide.2 (HC.out _ _ _)).mono ?_
        rintro e w' ⟨rfl, rfl⟩
        rw [hc]
        gi_wp2_with fail
        refine ⟨(KeepsOthers.refl _).from _, ⟨fun j hj => ?_, hc1, hc2, hf2, hc3⟩, hB'⟩
        by_cases e : j = k
        · rw [e]; exact HN.out
        · exact HZ.out j (by omega)
      · have hc := compare_top x y HL.out k hk (fun j hj => HZ.out j hj) hne
        have hnb : (Lib.compareInt (x : Int) (y : Int) != 0) = true := by
          rw [← hc, bne_iff_ne]; exact compare_ne hne
        have HN := Lib.hid hne
        clear hne
        gi_wp2_with fail
        refine ⟨trivial, ?_⟩
        refine (callsIn_wide.2 (HC.out _ _ _)).mono ?_
        rintro e w' ⟨rfl, rfl⟩
        rw [hc]
        gi_wp2_with fail
        exact ⟨(KeepsOthers.setCell _ _ _).from _, ⟨rfl, World.cell?_setCell_same' _ _ _ (by rw [hc2]; rfl)⟩, hB'.setCell (p := ⟨w.heap.size + 1 + 1, 0, none⟩) (by simp; omega) _⟩
    case done =>
      rintro D W hD ⟨⟨hz, _, hc2, hf2, _⟩, hB'⟩ hK
      have HS := Lib.hid (compare_same x y HL.out fun j => hz j (Nat.zero_le _))
      clear hz
      gi_wp2
      have hK' := (KeepsOthers.setCell W ⟨w.heap.size + 1 + 1, 0, none⟩ (.int .i64 0)).same D _ hK rfl
      refine ⟨by simp, .inl ⟨_, _, rfl, run_takeDeferred hK', ?_⟩⟩
      have hc5 := cell_kept (World.cell?_setCell_same' W ⟨w.heap.size + 1 + 1, 0, none⟩ (.int .i64 0) (by rw [hc2]; rfl)) (grownBy_putObj' _ D (.deferred none)) (fun r e => by cases e; exact ⟨_, hK', rfl⟩)
      refine ⟨.int .i64 0, ?_, by rw [HS.out], (hB'.setCell (p := ⟨w.heap.size + 1 + 1, 0, none⟩) (by simp; omega) _).trans (belowK_b (w := w) (Nat.le_refl _) _ D _ _ (by simp at hD; omega) hK' rfl rfl)⟩
      simp [results, Tryd.f41, go_sem, hc5]
    case stop =>
      rintro D c k W hD hk ⟨⟨rfl, hc2⟩, hB'⟩ hK
      gi_wp2
      refine ⟨by simp, .inl ⟨_, _, rfl, run_takeDeferred hK, ?_⟩⟩
      have hc5 := cell_kept hc2 (grownBy_putObj' _ D (.deferred none)) (fun r e => by cases e; exact ⟨_, hK, rfl⟩)
      refine ⟨.int .i64 (Lib.compareInt (x : Int) (y : Int)), ?_, rfl, hB'.trans (belowK_b (w := w) (Nat.le_refl _) W D _ _ (by simp at hD; omega) hK rfl rfl)⟩
      simp [results, Tryd.f41, go_sem, hc5]
  · have hcmp := compare_len x y hl
    have hne : (Lib.compareInt (x : Int) (y : Int) != 0) = true := by
      rw [← hcmp, bne_iff_ne]; exact compare_ne (by omega)
    have HL := Lib.hid hl
    clear hl
    gi_wp2_with fail
    refine ⟨trivial, ?_⟩
    refine (callsIn_wide.2 (HC.out _ _ _)).mono ?_
    rintro e w' ⟨rfl, rfl⟩
    rw [hcmp]
    gi_wp2_with fail
    have e2 := cell_new ((w.alloc (.cells #[.slice a (M.dig x).length ca] 24)).alloc (.cells #[.slice b (M.dig y).length cb] 24)) (.int .i64 (Lib.compareInt (x : Int) (y : Int))) 3
    simp only [World.size_alloc] at e2
    refine ⟨.int .i64 (Lib.compareInt (x : Int) (y : Int)), ?_, rfl, (((Below.refl _ w).alloc (Nat.le_refl _) _).alloc (by simp) _).alloc (by simp; omega) _⟩
    simp [results, Tryd.f41, go_sem, e2]

end Go.Proofs.YtamniclnhenmgaaDoor
