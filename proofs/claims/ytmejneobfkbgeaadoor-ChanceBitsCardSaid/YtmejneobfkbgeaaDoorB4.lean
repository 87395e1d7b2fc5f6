/- The walk of NatPascal. nat.Cmp. nat.Cmp, with the shelf's contract of cmp.Compare. nat.Sub. The arithmetic of a division by limbs: adding a multiple of the divisor, the guess of three limbs by two. nat.addTimes, over a part of a slice that is owned. math/bits.Div64 for a divisor of 48 bits. nat.guess. The guess over limbs, and what is left behind it. nat.takeOut. The arithmetic of long division. nat.scale, with the length of what it leaves. Regions that draw their order inside a round of a range over a function: the laws of the plain walk serve there, where no operation defers. No program is named here. nat.divideLong: long division by a number of two limbs or more. slices.Clone of any slice of ints; nat.divideLimbs. The reference's limb, fit, Cmp. -/
import Derived.Test.YtmejneobfkbgeaaDoorB3
import Derived.Lib.Small
import Derived.Lib.Hide
import Derived.Deep.QuietTactic
import Derived.BigQuiet
import Derived.Lib.ItoaNum
import Derived.Lib.BitFns
import Derived.RangeFuncCalls
import Derived.OrdersHeld
import Derived.Deep.RegionHeld
import Derived.OrdersIn
import Derived.BigRegionIn
namespace Go.Proofs.YtmejneobfkbgeaaDoor
open Go Go.RowKit Go.Shelf

theorem ch_len {n : Nat} (h : n ≤ 4096) (k : Int) : (M.dig (chI n k)).length ≤ 200 := by
  unfold chI
  split
  · rw [M.dig_zero]; exact Nat.zero_le _
  · exact Nat.le_trans (ch_dig_len h _) (by omega)

theorem chI_pascal (n : Nat) (k : Int) : chI n (k - 1) + chI n k = chI (n + 1) k := by
  unfold chI
  by_cases h : k < 0
  · rw [if_pos h, if_pos h, if_pos (by omega)]
  · by_cases h0 : k = 0
    · subst h0
      simp [M.ch_zero]
    · obtain ⟨j, rfl⟩ : ∃ j : Nat, k = j + 1 := ⟨(k - 1).toNat, by omega⟩
      rw [if_neg (by omega), if_neg (by omega), if_neg (by omega), show ((j : Int) + 1 - 1).toNat = j by omega, show ((j : Int) + 1).toNat = j + 1 by omega, M.ch_succ]

theorem mod_nat (k : Int) (m : Nat) (h : 0 < m) : ∃ kk : Nat, k % (m : Int) = kk ∧ kk < m := by
  have h0 := Int.emod_nonneg k (b := (m : Int)) (by omega)
  have h1 := Int.emod_lt_of_pos k (b := (m : Int)) (by omega)
  exact ⟨(k % (m : Int)).toNat, by omega, by omega⟩

/-- A variable of type Nat that lies in a block of its own holds the number n. -/
structure Var (W : World) (b : Nat) (a : Option Addr) (cap n : Nat) : Prop where
  cell : W.cell? ⟨b, 0, none⟩ = some (.slice a (M.dig n).length cap)
  row : Row W a (M.dig n) cap
theorem Var.new {W : World} {a : Option Addr} {cap n : Nat} (h : Row W a (M.dig n) cap) : Var (W.alloc (.cells #[.slice a (M.dig n).length cap] 24)) W.heap.size a cap n :=
  ⟨cell_new _ _ _, h.alloc _⟩
theorem Var.below {W W' : World} {b : Nat} {a : Option Addr} {cap n : Nat} (h : Var W b a cap n) (hb : Below W.heap.size W W') : Var W' b a cap n :=
  ⟨(hb.cell (p := ⟨b, 0, none⟩) (lt_of_cell h.cell)).trans h.cell, h.row.below hb⟩
theorem Var.alloc {W : World} {b : Nat} {a : Option Addr} {cap n : Nat} (h : Var W b a cap n) (o : Obj) : Var (W.alloc o) b a cap n :=
  h.below ((Below.refl _ W).alloc (Nat.le_refl _) _)
theorem Var.lt {W : World} {b : Nat} {a : Option Addr} {cap n : Nat} (h : Var W b a cap n) : b < W.heap.size := lt_of_cell h.cell
theorem step_below {w W W' : World} {o : Obj} (h : Below w.heap.size w W) (hb : Below (W.alloc o).heap.size (W.alloc o) W') : Below w.heap.size w W' :=
  (h.alloc h.size o).trans (hb.mono (by have := h.size; simp; omega))

theorem row_nil (W : World) : Row W none (M.dig 0) 0 := by rw [M.dig_zero]; exact ⟨Nat.le_refl _, by omega, fun j hj => by simp at hj⟩
theorem Var.store {W : World} {b : Nat} {a a' : Option Addr} {cap cap' n n' : Nat} (h : Var W b a cap n) (hr : Row W a' (M.dig n') cap') : Var (W.setCell ⟨b, 0, none⟩ (.slice a' (M.dig n').length cap')) b a' cap' n' :=
  ⟨World.cell?_setCell_same' _ _ _ (by rw [h.cell]; rfl), hr.store h.cell _⟩
theorem sum_len {m j : Nat} (hm : m < 40) (hj : j ≤ m + 1) : (M.dig (M.chSum m j)).length ≤ 200 := by
  have h1 := M.chSum_le m j hj
  have h2 : 2 ^ m < 2 ^ 48 := Nat.pow_lt_pow_right (by omega) (by omega)
  exact Nat.le_trans (M.dig_len_le.2 (Nat.lt_of_le_of_lt h1 (Nat.lt_of_lt_of_le h2 (by decide : 2 ^ 48 ≤ 16777216 ^ 2)))) (by omega)

/-- What holds in the loop that adds up the sets of all sizes. -/
def SumRel (w : World) (B m : Nat) (i : Value) (W : World) : Prop :=
  ∃ (j : Nat) (a : Option Addr) (cap : Nat), i = .int .i64 (j : Int) ∧ j ≤ m + 1 ∧ Var W B a cap (M.chSum m j) ∧ W.frozen? ⟨B, 0, none⟩ = false ∧ w.heap.size ≤ B ∧ Below w.heap.size w W

end Go.Proofs.YtmejneobfkbgeaaDoor

namespace Go.Proofs.YtmejneobfkbgeaaDoor
open Go Go.RowKit Go.Shelf
attribute [local go_sem] Oper.semAt_some

theorem lt_of_top {zs ys : List Int} (hz : M.Lim zs) (hy : M.Lim ys) (hl : zs.length = ys.length) (k : Nat) (hk : k < zs.length) (he : ∀ j, k < j → M.el zs j = M.el ys j) (h : M.el zs k < M.el ys k) : M.val zs < M.val ys := by
  have e1 : M.val zs = M.val (zs.take k) + 16777216 ^ k * (M.el zs k + 16777216 * M.val (zs.drop (k + 1))) := by
    have := M.val_append (zs.take k) (zs.drop k)
    rw [List.take_append_drop, List.length_take, Nat.min_eq_left (by omega), M.drop_el _ _ hk] at this
    rw [this]; rfl
  have e2 : M.val ys = M.val (ys.take k) + 16777216 ^ k * (M.el ys k + 16777216 * M.val (zs.drop (k + 1))) := by
    have hd : zs.drop (k + 1) = ys.drop (k + 1) := M.ext_el (by simp [hl]) fun j _ => by rw [M.el_drop, M.el_drop]; exact he _ (by omega)
    have := M.val_append (ys.take k) (ys.drop k)
    rw [List.take_append_drop, List.length_take, Nat.min_eq_left (by omega), M.drop_el _ _ (by omega : k < ys.length)] at this
    rw [this, hd]; rfl
  have b1 : M.val (zs.take k) < 16777216 ^ k := M.val_le_of_len (hz.take k) (by rw [List.length_take]; omega)
  have b2 := M.val_nonneg (hy.take k)
  have b3 : (16777216 : Int) ^ k * (M.el zs k + 16777216 * M.val (zs.drop (k + 1)) + 1) ≤ 16777216 ^ k * (M.el ys k + 16777216 * M.val (zs.drop (k + 1))) := Int.mul_le_mul_of_nonneg_left (by omega) (Int.le_of_lt (M.pow_pos k))
  rw [Int.mul_add, Int.mul_one] at b3
  rw [e1, e2]
  omega

theorem compare_lt {x y : Int} (h : x < y) : Lib.compareInt x y = -1 := by unfold Lib.compareInt; rw [if_pos h]
theorem compare_gt {x y : Int} (h : y < x) : Lib.compareInt x y = 1 := by unfold Lib.compareInt; rw [if_neg (by omega), if_pos h]
theorem compare_eq {x y : Int} (h : x = y) : Lib.compareInt x y = 0 := by subst h; unfold Lib.compareInt; simp
theorem compare_ne {x y : Int} (h : x ≠ y) : Lib.compareInt x y ≠ 0 := by
  rcases Int.lt_or_gt_of_ne h with h | h
  · rw [compare_lt h]; decide
  · rw [compare_gt h]; decide

/-- The comparison of numbers is that of their lengths, where they differ. -/
theorem compare_len (x y : Nat) (h : (M.dig x).length ≠ (M.dig y).length) : Lib.compareInt ((M.dig x).length : Int) ((M.dig y).length : Int) = Lib.compareInt (x : Int) (y : Int) := by
  have hlt : ∀ a b : Nat, (M.dig a).length < (M.dig b).length → a < b := by
    intro a b hl
    by_cases hab : a < b
    · exact hab
    · have h1 : a < 16777216 ^ (M.dig a).length := M.dig_len_le.1 (Nat.le_refl _)
      have h2 : (M.dig b).length ≤ (M.dig a).length := M.dig_len_le.2 (by omega)
      omega
  rcases Nat.lt_or_gt_of_ne h with h | h
  · rw [compare_lt (by omega), compare_lt (by have := hlt x y h; omega)]
  · rw [compare_gt (by omega), compare_gt (by have := hlt y x h; omega)]
/-- .. and that of the highest limb in which they differ. -/
theorem compare_top (x y : Nat) (h : (M.dig x).length = (M.dig y).length) (k : Nat) (hk : k < (M.dig x).length) (he : ∀ j, k < j → M.el (M.dig x) j = M.el (M.dig y) j) (hne : M.el (M.dig x) k ≠ M.el (M.dig y) k) : Lib.compareInt (M.el (M.dig x) k) (M.el (M.dig y) k) = Lib.compareInt (x : Int) (y : Int) := by
  rcases Int.lt_or_gt_of_ne hne with h' | h'
  · have := lt_of_top (M.lim_dig x) (M.lim_dig y) h k hk he h'
    rw [M.val_dig, M.val_dig] at this
    rw [compare_lt h', compare_lt this]
  · have := lt_of_top (M.lim_dig y) (M.lim_dig x) h.symm k (by omega) (fun j hj => (he j hj).symm) h'
    rw [M.val_dig, M.val_dig] at this
    rw [compare_gt h', compare_gt this]
theorem compare_same (x y : Nat) (h : (M.dig x).length = (M.dig y).length) (he : ∀ j : Nat, M.el (M.dig x) j = M.el (M.dig y) j) : Lib.compareInt (x : Int) (y : Int) = 0 :=
  compare_eq (by rw [M.dig_inj (M.ext_el h fun k _ => he k)])

set_option maxRecDepth 100000 in
set_option maxHeartbeats 2000000 in
theorem cmp_of (hC : ∀ (x y : Int) (w : World), Calls Tryd.prog 78 #[.int .i64 x, .int .i64 y] w fun e w' => e = .returned (.int .i64 (Lib.compareInt x y)) ∧ w' = w) (a b : Option Addr) (ca cb x y : Nat) (w : World) (hA : Row w a (M.dig x) ca) (hB : Row w b (M.dig y) cb) :
    Calls Tryd.prog 69 #[.agg #[.slice a (M.dig x).length ca], .agg #[.slice b (M.dig y).length cb]] w fun e W' => e = .returned (.int .i64 (Lib.compareInt (x : Int) (y : Int))) ∧ Below w.heap.size w W' := by
  have HC := Lib.hid hC
  clear hC
  refine (callsIn_wide (n := 6)).1 ?_
  refine callsIn_of_wp_marks Tryd.func69 rfl trivial ?_ rfl
  simp only [Tryd.ntmps69, List.size_toArray, List.length_cons, List.length_nil, Nat.reduceAdd, Nat.reduceSub, Array.replicate_succ, Array.replicate_zero, List.push_toArray, List.append_toArray, List.nil_append, List.cons_append]
  have c0 := cell_new w (.slice a (M.dig x).length ca) 24
  have c1 := cell_new (w.alloc (.cells #[.slice a (M.dig x).length ca] 24)) (.slice b (M.dig y).length cb) 24
  have c2 := cell_new ((w.alloc (.cells #[.slice a (M.dig x).length ca] 24)).alloc (.cells #[.slice b (M.dig y).length cb] 24)) (.int .i64 0) 3
  have f2 := frozen_new ((w.alloc (.cells #[.slice a (M.dig x).length ca] 24)).alloc (.cells #[.slice b (M.dig y).length cb] 24)) (.int .i64 0) 3
  simp only [World.size_alloc] at c1 c2 f2
  have d1 := cell_later (.cells #[.int .i64 0] 3) c1
  have d0 := cell_later (.cells #[.int .i64 0] 3) (cell_later (.cells #[.slice b (M.dig y).length cb] 24) c0)
  have HD := Lib.hid (And.intro d0 (And.intro d1 (And.intro c2 f2)))
  clear d0 d1 c2 f2 c0 c1
  have hB0 : Below w.heap.size w (((w.alloc (.cells #[.slice a (M.dig x).length ca] 24)).alloc (.cells #[.slice b (M.dig y).length cb] 24)).alloc (.cells #[.int .i64 0] 3)) := (((Below.refl _ w).alloc (Nat.le_refl _) _).alloc (by simp) _).alloc (by simp; omega) _
  have HB0 := Lib.hid hB0
  clear hB0
  by_cases hl : (M.dig x).length = (M.dig y).length
  · have hcmp : Lib.compareInt ((M.dig x).length : Int) ((M.dig y).length : Int) = 0 := compare_eq (by rw [hl])
    have HL := Lib.hid hl
    clear hl
    gi_wp2_with fail
    refine ⟨trivial, ?_⟩
    refine (callsIn_wide.2 (HC.out _ _ _)).mono ?_
    rintro e w' ⟨rfl, rfl⟩
    rw [hcmp]
    gi_wp2_with fail
    refine ⟨trivial, ?_⟩
    refine (callsIn_wide.2 (backward_any _ _ _ _)).mono ?_
    rintro e w' ⟨rfl, rfl⟩
    gi_wp2_with fail
    have d3 := cell_new (((w.alloc (.cells #[.slice a (M.dig x).length ca] 24)).alloc (.cells #[.slice b (M.dig y).length cb] 24)).alloc (.cells #[.int .i64 0] 3)) (.slice a (M.dig x).length ca) 22
    simp only [World.size_alloc] at d3
    refine wpIn_back (n := 6) (by omega) (Bs := w.heap.size + 1 + 1 + 1) rfl rfl a (M.dig x).length ca (by have := hA.room; have := hA.most; omega) (fun j => M.el (M.dig x) j)
      (fun k W => ((∀ j : Nat, k ≤ j → M.el (M.dig x) j = M.el (M.dig y) j) ∧ W.cell? ⟨w.heap.size + 1, 0, none⟩ = some (.slice b (M.dig y).length cb) ∧ W.cell? ⟨w.heap.size + 1 + 1, 0, none⟩ = some (.int .i64 0) ∧ W.frozen? ⟨w.heap.size + 1 + 1, 0, none⟩ = false ∧ W.cell? ⟨w.heap.size + 1 + 1 + 1, 0, none⟩ = some (.slice a (M.dig x).length ca)) ∧ Below w.heap.size w W)
      (fun c k W => (c = .ret ∧ W.cell? ⟨w.heap.size + 1 + 1, 0, none⟩ = some (.int .i64 (Lib.compareInt (x : Int) (y : Int)))) ∧ Below w.heap.size w W)
      (OwnFrom.and (Own.from (fun s A B row hs hg hr => ⟨hs.1, cell_kept hs.2.1 hg hr, cell_kept hs.2.2.1 hg hr, (frozen_kept hs.2.2.1 hg hr).trans hs.2.2.2.1, cell_kept hs.2.2.2.2 hg hr⟩) _) (ownFrom_below (Nat.le_refl _) (by simp; omega)))
      (fun c => OwnFrom.and (Own.from (fun s A B row hs hg hr => ⟨hs.1, cell_kept hs.2 hg hr⟩) _) (ownFrom_below (Nat.le_refl _) (by simp; omega)))
      ⟨⟨fun j hj => by rw [M.el_ge hj, M.el_ge (by rw [← HL.out]; exact hj)], cell_later _ HD.out.2.1, cell_later _ HD.out.2.2.1, frozen_later _ HD.out.2.2.1 HD.out.2.2.2, d3⟩, HB0.out.alloc (by simp; omega) _⟩
      (fun k W h => h.1.2.2.2.2)
      (fun k W h hk => by
        obtain ⟨b, off, e, hc⟩ := hA.el k hk
        exact ⟨b, off, e, (h.2.cell (p := ⟨b, off + k, none⟩) (lt_of_cell hc)).trans hc⟩)
      (fun k => { tmps := List.toArray ((.agg #[.slice a (M.dig x).length ca]) :: (.agg #[.slice b (M.dig y).length cb]) :: (.pointer (some ⟨w.heap.size, 0, none⟩)) :: (.pointer (some ⟨w.heap.size + 1, 0, none⟩)) :: (.pointer (some ⟨w.heap.size + 1 + 1, 0, none⟩)) :: (.int .i64 0) :: (.int .i64 (k : Int)) :: (.int .i64 (M.el (M.dig x) k)) :: undef :: (.pointer (some ⟨w.heap.size, 0, none⟩)) :: (.slice a (M.dig x).length ca) :: (.int .i64 ((M.dig x).length : Int)) :: (.pointer (some ⟨w.heap.size + 1, 0, none⟩)) :: (.slice b (M.dig y).length cb) :: (.int .i64 ((M.dig y).length : Int)) :: (.int .i64 0) :: (.int .i64 0) :: (.bool false) :: undef :: (.pointer (some ⟨w.heap.size, 0, none⟩)) :: (.slice a (M.dig x).length ca) :: (.func (.func 74) #[] #[.pointer (some ⟨w.heap.size + 1 + 1 + 1, 0, none⟩)]) :: (.int .i64 (k : Int)) :: (.int .i64 (M.el (M.dig x) k)) :: undef :: undef :: undef :: undef :: undef :: undef :: undef :: undef :: undef :: undef :: []), defers := [] }) ?assign ?body ?done ?stop
    case assign =>
      intro l k W K hk hK
      gi_wp2
      exact hK
    case body =>
      rintro l k W hl hrec ⟨⟨hz, hc1, hc2, hf2, hc3⟩, hB'⟩ hk
      have hroom := hB.room
      have hmost := hB.most
      have hky : k < (M.dig y).length := by rw [← HL.out]; exact hk
      obtain ⟨bb, off, rfl, hcy0⟩ := hB.el k hky
      have hcy := (hB'.cell (p := ⟨bb, off + k, none⟩) (lt_of_cell hcy0)).trans hcy0
      have HZ := Lib.hid hz
      clear hz hcy0
      by_cases hne : M.el (M.dig x) k = M.el (M.dig y) k
      · have hc := compare_eq hne
        have HN := Lib.hid hne
        clear hne
        gi_wp2_with fail
        refine ⟨trivial, ?_⟩
        refine (callsIn_wide.2 (HC.out _ _ _)).mono ?_
        rintro e w' ⟨rfl, rfl⟩
        rw [hc]
        gi_wp2_with fail
        refine ⟨(KeepsOthers.refl _).from _, ⟨fun j hj => ?_, hc1, hc2, hf2, hc3⟩, hB'⟩
        by_cases e : j = k
        · rw [e]; exact HN.out
        · exact HZ.out j (by omega)
      · have hc := compare_top x y HL.out k hk (fun j hj => HZ.out j hj) hne
        have hnb : (Lib.compareInt (x : Int) (y : Int) != 0) = true := by
          rw [← hc, bne_iff_ne]; exact compare_ne hne
        have HN := Lib.hid hne
        clear hne
        gi_wp2_with fail
        refine ⟨trivial, ?_⟩
        refine (callsIn_wide.2 (HC.out _ _ _)).mono ?_
        rintro e w' ⟨rfl, rfl⟩
        rw [hc]
        gi_wp2_with fail
        exact ⟨(KeepsOthers.setCell _ _ _).from _, ⟨rfl, World.cell?_setCell_same' _ _ _ (by rw [hc2]; rfl)⟩, hB'.setCell (p := ⟨w.heap.size + 1 + 1, 0, none⟩) (by simp; omega) _⟩
    case done =>
      rintro D W hD ⟨⟨hz, _, hc2, hf2, _⟩, hB'⟩ hK
      have HS := Lib.hid (compare_same x y HL.out fun j => hz j (Nat.zero_le _))
      clear hz
      gi_wp2
      have hK' := (KeepsOthers.setCell W ⟨w.heap.size + 1 + 1, 0, none⟩ (.int .i64 0)).same D _ hK rfl
      refine ⟨by simp, .inl ⟨_, _, rfl, run_takeDeferred hK', ?_⟩⟩
      have hc5 := cell_kept (World.cell?_setCell_same' W ⟨w.heap.size + 1 + 1, 0, none⟩ (.int .i64 0) (by rw [hc2]; rfl)) (grownBy_putObj' _ D (.deferred none)) (fun r e => by cases e; exact ⟨_, hK', rfl⟩)
      refine ⟨.int .i64 0, ?_, by rw [HS.out], (hB'.setCell (p := ⟨w.heap.size + 1 + 1, 0, none⟩) (by simp; omega) _).trans (belowK_b (w := w) (Nat.le_refl _) _ D _ _ (by simp at hD; omega) hK' rfl rfl)⟩
      simp [results, Tryd.f69, go_sem, hc5]
    case stop =>
      rintro D c k W hD hk ⟨⟨rfl, hc2⟩, hB'⟩ hK
      gi_wp2
      refine ⟨by simp, .inl ⟨_, _, rfl, run_takeDeferred hK, ?_⟩⟩
      have hc5 := cell_kept hc2 (grownBy_putObj' _ D (.deferred none)) (fun r e => by cases e; exact ⟨_, hK, rfl⟩)
      refine ⟨.int .i64 (Lib.compareInt (x : Int) (y : Int)), ?_, rfl, hB'.trans (belowK_b (w := w) (Nat.le_refl _) W D _ _ (by simp at hD; omega) hK rfl rfl)⟩
      simp [results, Tryd.f69, go_sem, hc5]
  · have hcmp := compare_len x y hl
    have hne : (Lib.compareInt (x : Int) (y : Int) != 0) = true := by
      rw [← hcmp, bne_iff_ne]; exact compare_ne (by omega)
    have HL := Lib.hid hl
    clear hl
    gi_wp2_with fail
    refine ⟨trivial, ?_⟩
    refine (callsIn_wide.2 (HC.out _ _ _)).mono ?_
    rintro e w' ⟨rfl, rfl⟩
    rw [hcmp]
    gi_wp2_with fail
    have e2 := cell_new ((w.alloc (.cells #[.slice a (M.dig x).length ca] 24)).alloc (.cells #[.slice b (M.dig y).length cb] 24)) (.int .i64 (Lib.compareInt (x : Int) (y : Int))) 3
    simp only [World.size_alloc] at e2
    refine ⟨.int .i64 (Lib.compareInt (x : Int) (y : Int)), ?_, rfl, (((Below.refl _ w).alloc (Nat.le_refl _) _).alloc (by simp) _).alloc (by simp; omega) _⟩
    simp [results, Tryd.f69, go_sem, e2]

end Go.Proofs.YtmejneobfkbgeaaDoor

namespace Go.Proofs.YtmejneobfkbgeaaDoor
open Go Go.RowKit Go.Shelf

theorem cmp_any (a b : Option Addr) (ca cb x y : Nat) (w : World) (hA : Row w a (M.dig x) ca) (hB : Row w b (M.dig y) cb) :
    Calls Tryd.prog 69 #[.agg #[.slice a (M.dig x).length ca], .agg #[.slice b (M.dig y).length cb]] w fun e W' => e = .returned (.int .i64 (Lib.compareInt (x : Int) (y : Int))) ∧ Below w.heap.size w W' :=
  cmp_of compare_any a b ca cb x y w hA hB

theorem cmp_num {u v : Value} {x y : Nat} {w : World} (hu : Num w u x) (hv : Num w v y) :
    Calls Tryd.prog 69 #[u, v] w fun e W' => e = .returned (.int .i64 (Lib.compareInt (x : Int) (y : Int))) ∧ Below w.heap.size w W' := by
  obtain ⟨a, ca, rfl, ha⟩ := hu
  obtain ⟨b, cb, rfl, hb⟩ := hv
  exact cmp_any a b ca cb x y w ha hb
end Go.Proofs.YtmejneobfkbgeaaDoor

namespace Go.Proofs.YtmejneobfkbgeaaDoor
open Go Go.RowKit Go.Shelf
attribute [local go_sem] mask24

theorem sub_end {zs : List Int} {x y n : Nat} {c : Int} (hz : M.Lim zs) (hl : zs.length = n) (hle : y ≤ x) (hc : -1 ≤ c) (hc2 : c ≤ 0) (h : M.val zs + 16777216 ^ n * c = x - y) : M.trimL zs = M.dig (x - y) := by
  have h1 : M.val zs < 16777216 ^ n := M.val_le_of_len hz (by omega)
  have h2 := M.val_nonneg hz
  have hv : M.val zs = ((x - y : Nat) : Int) := by
    rcases (by omega : c = 0 ∨ c = -1) with rfl | rfl
    · omega
    · rw [Int.mul_neg, Int.mul_one] at h; omega
  rw [M.trimL_dig hz, hv]; rfl

def SubRel (w w3 : World) (g n x y : Nat) (c i : Value) (W : World) : Prop :=
  ∃ (k : Nat) (zs : List Int) (q : Int), i = .int .i64 (k : Int) ∧ c = .int .i64 q ∧ k ≤ n ∧ zs.length = n ∧ M.Lim zs ∧ -1 ≤ q ∧ q ≤ 0 ∧
    M.val (zs.take k) + 16777216 ^ k * q = M.val ((M.dig x).take k) + -M.val ((M.dig y).take k) ∧ Own W (w.heap.size + 3) (.slice (some ⟨g, 0, none⟩) zs.length n) zs ∧ Below (w.heap.size + 3) w3 W

set_option maxRecDepth 100000 in
set_option maxHeartbeats 1000000 in
theorem sub_ge (a b : Option Addr) (ca cb x y : Nat) (w : World) (hx : (M.dig x).length ≤ 200) (hy : (M.dig y).length ≤ 200) (ha : Row w a (M.dig x) ca) (hb : Row w b (M.dig y) cb) (hle : y ≤ x) :
    Calls Tryd.prog 48 #[.agg #[.slice a (M.dig x).length ca], .agg #[.slice b (M.dig y).length cb]] w fun e W' =>
      NatRes (x - y) e W' ∧ Below w.heap.size w W' := by
  have Hvx := Lib.hid (vld_dig hx)
  have Hvy := Lib.hid (vld_dig hy)
  have hB3 := boxes_below w (.slice a (M.dig x).length ca) (.slice b (M.dig y).length cb)
  have hsz := boxes_size w (.slice a (M.dig x).length ca) (.slice b (M.dig y).length cb)
  have HA := Lib.hid (ha.below hB3)
  have HB := Lib.hid (hb.below hB3)
  have HC := Lib.hid (boxes_cells w (.slice a (M.dig x).length ca) (.slice b (M.dig y).length cb))
  have HB3 := Lib.hid hB3
  have HSZ := Lib.hid hsz
  have hla : (M.dig x).length ≤ ca := ha.room
  have hlb : (M.dig y).length ≤ cb := hb.room
  have hma := ha.most
  have hmb := hb.most
  clear ha hb hB3 hsz
  go_enter Tryd.func48, Tryd.ntmps48
  go_wp2_with fail
  generalize hw3 : (((w.alloc (.cells #[.slice a (M.dig x).length ca] 24)).alloc (.cells #[.slice b (M.dig y).length cb] 24)).alloc (.cells #[.slice none 0 0] 24)) = w3
  obtain rfl : boxes w (.slice a (M.dig x).length ca) (.slice b (M.dig y).length cb) = w3 := hw3
  generalize boxes w (.slice a (M.dig x).length ca) (.slice b (M.dig y).length cb) = w3 at *
  refine (valid_yes a _ ca _ HA.out Hvx.out).mono ?_
  rintro e w4 ⟨rfl, hb4⟩
  have hsz4 := hb4.size
  have c1 := (hb4.cell (p := ⟨w.heap.size + 1, 0, none⟩) (by rw [HSZ.out]; simp)).trans HC.out.2.1
  go_wp2_with fail
  refine (valid_yes b _ cb _ (HB.out.below hb4) Hvy.out).mono ?_
  rintro e w5 ⟨rfl, hb5⟩
  have hsz5 := hb5.size
  have c0 := (hb5.cell (p := ⟨w.heap.size, 0, none⟩) (by have := HSZ.out; simp; omega)).trans ((hb4.cell (p := ⟨w.heap.size, 0, none⟩) (by rw [HSZ.out]; simp)).trans HC.out.1)
  replace c1 := (hb5.cell (p := ⟨w.heap.size + 1, 0, none⟩) (by have := HSZ.out; simp; omega)).trans c1
  have HD : Hid (w.heap.size + 3 ≤ w5.heap.size ∧ Below w3.heap.size w3 w5) := ⟨by have := HSZ.out; omega, hb4.trans (hb5.mono hb4.size)⟩
  clear hb4 hb5 hsz4 hsz5
  go_wp2_with fail
  refine (cmp_any a b ca cb x y w5 (HA.out.below HD.out.2) (HB.out.below HD.out.2)).mono ?_
  rintro e w5' ⟨rfl, hb5⟩
  have c0' := (hb5.cell (p := ⟨w.heap.size, 0, none⟩) (by have := HD.out.1; simp; omega)).trans c0
  have c1' := (hb5.cell (p := ⟨w.heap.size + 1, 0, none⟩) (by have := HD.out.1; simp; omega)).trans c1
  have HD' : Hid (w.heap.size + 3 ≤ w5'.heap.size ∧ Below w3.heap.size w3 w5') := ⟨Nat.le_trans HD.out.1 hb5.size, HD.out.2.trans (hb5.mono HD.out.2.size)⟩
  clear c0 c1 hb5 HD
  obtain ⟨s, hs, hs0⟩ : ∃ s, Lib.compareInt (x : Int) (y : Int) = s ∧ 0 ≤ s := by
    rcases Nat.lt_or_eq_of_le hle with h | h
    · exact ⟨1, compare_gt (by omega), by decide⟩
    · exact ⟨0, compare_eq (by omega), by decide⟩
  rw [hs]
  go_wp2_with (at_make; refine wpList_make1 rfl _ _ rfl ((M.dig x).length) rfl rfl (by omega) (by omega) HD'.out.1 ?_; intro w6 hown6 hb6; have c0 := (hb6.cell (p := ⟨w.heap.size, 0, none⟩) (by have := HD'.out.1; simp)).trans c0')
  generalize w5'.heap.size = g at *
  have HD : Hid (Below (w.heap.size + 3) w3 w6) := (HD'.out.2.mono (by rw [HSZ.out]; exact Nat.le_refl _)).trans hb6
  clear c0' c1' c0 hb6 HD' hs hs0
  go_loopw [7, 31] (fun c i wr => SubRel w w3 g (M.dig x).length x y c i wr) (fun _ i _ => (M.dig x).length - (intOf i).toNat)
  case atStart => exact ⟨0, _, 0, rfl, rfl, Nat.zero_le _, List.length_replicate, M.Lim.replicate _, by omega, by omega, by simp [M.val], by simpa using hown6, HD.out⟩
  case round =>
    obtain ⟨k, zs, q, hi, hc, hk, hlen, hlim, hq0, hq1, hval, hown, hbW⟩ := hrel
    subst hi hc
    clear hown6 HD
    have hsW := hbW.size
    have c0 := (hbW.cell (p := ⟨w.heap.size, 0, none⟩) (by simp)).trans HC.out.1
    have c1 := (hbW.cell (p := ⟨w.heap.size + 1, 0, none⟩) (by simp)).trans HC.out.2.1
    have c2 := (hbW.cell (p := ⟨w.heap.size + 1 + 1, 0, none⟩) (by simp)).trans HC.out.2.2.1
    have f2 := (hbW.frozen (p := ⟨w.heap.size + 1 + 1, 0, none⟩) (by simp)).trans HC.out.2.2.2
    have HBW := Lib.hid hbW
    clear hbW
    have HVAL := Lib.hid hval
    have HLN := Lib.hid hlen
    have HLIM := Lib.hid hlim
    have HOWN := Lib.hid hown
    clear hval hlen hlim hown
    have hRA : Row wr a (M.dig x) ca := HA.out.below (HBW.out.mono (by rw [HSZ.out]; exact Nat.le_refl _))
    have hRB : Row wr b (M.dig y) cb := HB.out.below (HBW.out.mono (by rw [HSZ.out]; exact Nat.le_refl _))
    by_cases hlt : k < (M.dig x).length
    · have h1 := (M.lim_dig x).get k
      have h2 := (M.lim_dig y).get k
      have HRA := Lib.hid hRA
      have HRB := Lib.hid hRB
      clear hRA hRB
      obtain ⟨hgB, hcz, hfz⟩ := HOWN.out.at k (by rw [HLN.out]; exact hlt)
      obtain ⟨ba, oa, rfl, hcx⟩ := HRA.out.el k hlt
      go_wp2_with fail
      refine (limbAt_any _ _ _ _ _ HRB.out).mono ?_
      rintro e w' ⟨rfl, hw⟩
      obtain rfl : wr = w' := hw.symm
      go_wp2
      go_roundw
      case rel =>
        refine ⟨k + 1, zs.set k ((q + (M.el (M.dig x) k - M.el (M.dig y) k)) % 16777216), _, by go_num, rfl, by omega, by rw [List.length_set]; exact HLN.out, HLIM.out.set k (by omega) (by omega), by omega, by omega, ?_, ?_, HBW.out.setCell (p := ⟨g, k, none⟩) hgB _⟩
        · rw [M.val_set_succ _ _ _ (by rw [HLN.out]; exact hlt), M.val_take_succ', M.val_take_succ', Int.pow_succ]
          have := M.add_step (s := M.el (M.dig x) k) (t := - M.el (M.dig y) k) HVAL.out
          rw [Int.mul_neg] at this
          rw [Int.neg_add, show M.el (M.dig x) k - M.el (M.dig y) k = M.el (M.dig x) k + -M.el (M.dig y) k by omega]
          exact this
        · rw [List.length_set]
          exact HOWN.out.set k _
      case measure => simp [intOf]; omega
    · have hk' : k = (M.dig x).length := by omega
      have hend : M.trimL zs = M.dig (x - y) := by
        refine sub_end HLIM.out HLN.out hle hq0 hq1 ?_
        have hyl : (M.dig y).length ≤ (M.dig x).length := by
          refine M.dig_len_le.2 (Nat.lt_of_le_of_lt hle (M.dig_len_le.1 (Nat.le_refl _)))
        have hv := HVAL.out
        rw [List.take_of_length_le (by rw [HLN.out]; omega), List.take_of_length_le (by omega), List.take_of_length_le (by omega), M.val_dig, M.val_dig, hk'] at hv
        rw [hv]; omega
      have hw := within_any _ zs _ wr HOWN.out.rowAt
      have ho := HOWN.out.trimmed
      rw [HLN.out] at hw
      rw [hend] at hw ho
      obtain ⟨a', c', hcut⟩ := cut_slice (some ⟨g, 0, none⟩) (M.dig x).length (M.dig (x - y))
      rw [hcut] at hw ho
      have h200 : (M.dig (x - y)).length ≤ 200 := Nat.le_trans (M.dig_len_le.2 (Nat.lt_of_le_of_lt (Nat.sub_le x y) (M.dig_len_le.1 (Nat.le_refl _)))) hx
      rw [if_pos h200] at hw
      clear hRA hRB hend hcut
      have HO := Lib.hid ho
      have HK := Lib.hid hk'
      have HW := Lib.hid hw
      clear ho hk' hw
      have hs2 : w.heap.size + 1 + 1 < wr.heap.size := by have := HSZ.out; omega
      go_wp2_with (go_at_call 47; refine HW.out.mono ?_; rintro e w7 ⟨rfl, hb7⟩; have d2 := (hb7.cell (p := ⟨w.heap.size + 1 + 1, 0, none⟩) hs2).trans c2; have g2 := (hb7.frozen (p := ⟨w.heap.size + 1 + 1, 0, none⟩) hs2).trans f2)
      refine bodyPost_ret (v := .tuple #[.agg #[.slice a' (M.dig (x - y)).length c'], .int .i64 0]) (by simp [results, Tryd.results48, go_sem, d2]) rfl ⟨natRes_ok h200 ?_, ?_⟩
      · exact ((HO.out.below hb7).setBelow (p := ⟨w.heap.size + 1 + 1, 0, none⟩) (by simp) _).num
      · exact ((HB3.out.trans (HBW.out.mono (by omega))).trans (hb7.mono (by have := HSZ.out; omega))).setCell (p := ⟨w.heap.size + 1 + 1, 0, none⟩) (by simp; omega) _

set_option maxRecDepth 100000 in
set_option maxHeartbeats 1000000 in
theorem sub_lt (a b : Option Addr) (ca cb x y : Nat) (w : World) (hx : (M.dig x).length ≤ 200) (hy : (M.dig y).length ≤ 200) (ha : Row w a (M.dig x) ca) (hb : Row w b (M.dig y) cb) (hlt : x < y) :
    Calls Tryd.prog 48 #[.agg #[.slice a (M.dig x).length ca], .agg #[.slice b (M.dig y).length cb]] w fun e W' =>
      e = .returned (.tuple #[.agg #[.slice none 0 0], .int .i64 5]) ∧ Below w.heap.size w W' := by
  have Hvx := Lib.hid (vld_dig hx)
  have Hvy := Lib.hid (vld_dig hy)
  have hB3 := boxes_below w (.slice a (M.dig x).length ca) (.slice b (M.dig y).length cb)
  have hsz := boxes_size w (.slice a (M.dig x).length ca) (.slice b (M.dig y).length cb)
  have HA := Lib.hid (ha.below hB3)
  have HB := Lib.hid (hb.below hB3)
  have HC := Lib.hid (boxes_cells w (.slice a (M.dig x).length ca) (.slice b (M.dig y).length cb))
  have HB3 := Lib.hid hB3
  have HSZ := Lib.hid hsz
  clear ha hb hB3 hsz
  go_enter Tryd.func48, Tryd.ntmps48
  go_wp2_with fail
  generalize hw3 : (((w.alloc (.cells #[.slice a (M.dig x).length ca] 24)).alloc (.cells #[.slice b (M.dig y).length cb] 24)).alloc (.cells #[.slice none 0 0] 24)) = w3
  obtain rfl : boxes w (.slice a (M.dig x).length ca) (.slice b (M.dig y).length cb) = w3 := hw3
  generalize boxes w (.slice a (M.dig x).length ca) (.slice b (M.dig y).length cb) = w3 at *
  refine (valid_yes a _ ca _ HA.out Hvx.out).mono ?_
  rintro e w4 ⟨rfl, hb4⟩
  have hsz4 := hb4.size
  have c1 := (hb4.cell (p := ⟨w.heap.size + 1, 0, none⟩) (by rw [HSZ.out]; simp)).trans HC.out.2.1
  go_wp2_with fail
  refine (valid_yes b _ cb _ (HB.out.below hb4) Hvy.out).mono ?_
  rintro e w5 ⟨rfl, hb5⟩
  have hsz5 := hb5.size
  have c0 := (hb5.cell (p := ⟨w.heap.size, 0, none⟩) (by have := HSZ.out; simp; omega)).trans ((hb4.cell (p := ⟨w.heap.size, 0, none⟩) (by rw [HSZ.out]; simp)).trans HC.out.1)
  replace c1 := (hb5.cell (p := ⟨w.heap.size + 1, 0, none⟩) (by have := HSZ.out; simp; omega)).trans c1
  have HD : Hid (w.heap.size + 3 ≤ w5.heap.size ∧ Below w3.heap.size w3 w5) := ⟨by have := HSZ.out; omega, hb4.trans (hb5.mono hb4.size)⟩
  clear hb4 hb5 hsz4 hsz5
  go_wp2_with fail
  refine (cmp_any a b ca cb x y w5 (HA.out.below HD.out.2) (HB.out.below HD.out.2)).mono ?_
  rintro e w5' ⟨rfl, hb5⟩
  have d2 := (hb5.cell (p := ⟨w.heap.size + 1 + 1, 0, none⟩) (by have := HD.out.1; simp; omega)).trans ((HD.out.2.cell (p := ⟨w.heap.size + 1 + 1, 0, none⟩) (by rw [HSZ.out]; simp)).trans HC.out.2.2.1)
  have g2 := (hb5.frozen (p := ⟨w.heap.size + 1 + 1, 0, none⟩) (by have := HD.out.1; simp; omega)).trans ((HD.out.2.frozen (p := ⟨w.heap.size + 1 + 1, 0, none⟩) (by rw [HSZ.out]; simp)).trans HC.out.2.2.2)
  have HB5 := Lib.hid ((HB3.out.trans (HD.out.2.mono (by have := HSZ.out; omega))).trans (hb5.mono (by have := HD.out.1; omega)))
  clear c0 c1 hb5 HD
  rw [compare_lt (by omega : (x : Int) < (y : Int))]
  go_wp2_with fail
  refine bodyPost_ret (v := .tuple #[.agg #[.slice none 0 0], .int .i64 5]) (by simp [results, Tryd.results48, go_sem, d2]) rfl ⟨rfl, ?_⟩
  exact HB5.out.setCell (p := ⟨w.heap.size + 1 + 1, 0, none⟩) (by simp; omega) _

/-- **nat.Sub** of any two numbers: whether it is an error. -/
theorem sub_both (a b : Option Addr) (ca cb x y : Nat) (w : World) (hx : (M.dig x).length ≤ 200) (hy : (M.dig y).length ≤ 200) (ha : Row w a (M.dig x) ca) (hb : Row w b (M.dig y) cb) :
    Calls Tryd.prog 48 #[.agg #[.slice a (M.dig x).length ca], .agg #[.slice b (M.dig y).length cb]] w fun e W' =>
      ∃ (d : Option Addr) (n cd : Nat), e = .returned (.tuple #[.agg #[.slice d n cd], .int .i64 (if y ≤ x then 0 else 5)]) ∧ Below w.heap.size w W' := by
  by_cases h : y ≤ x
  · refine (sub_ge a b ca cb x y w hx hy ha hb h).mono ?_
    rintro e W' ⟨hres, hb'⟩
    obtain ⟨v, rfl, d, cd, rfl, _⟩ := hres.ok (Nat.le_trans (M.dig_len_le.2 (Nat.lt_of_le_of_lt (Nat.sub_le x y) (M.dig_len_le.1 (Nat.le_refl _)))) hx)
    exact ⟨d, _, cd, by rw [if_pos h], hb'⟩
  · refine (sub_lt a b ca cb x y w hx hy ha hb (by omega)).mono ?_
    rintro e W' ⟨rfl, hb'⟩
    exact ⟨none, 0, 0, by rw [if_neg h], hb'⟩
end Go.Proofs.YtmejneobfkbgeaaDoor

namespace Go.Proofs.YtmejneobfkbgeaaDoor.M

/-- One step of adding t times the divisor. -/
theorem addT_step {P V c z t y A B : Int} (h : V + P * c = A + t * B) :
    (V + P * ((c + (z + t * y)) % 16777216)) + P * 16777216 * ((c + (z + t * y)) / 16777216) = (A + P * z) + t * (B + P * y) := by
  have h1 := pow_split P (c + (z + t * y))
  have h2 : P * (c + (z + t * y)) = P * c + P * z + t * (P * y) := by grind
  have h3 : t * (B + P * y) = t * B + t * (P * y) := Int.mul_add ..
  omega

/-- The product in a step, and what is carried on. -/
theorem addT_prod {t y : Int} (hy : 0 ≤ y ∧ y < 16777216) (ht : -16777216 < t ∧ t ≤ 1) : -281474943156225 ≤ t * y ∧ t * y ≤ 16777215 := by
  rcases Int.lt_or_le 0 t with h | h
  · obtain rfl : t = 1 := by omega
    omega
  · have h1 := (mul_bound (a := -t) (b := y) (by omega) hy)
    have h2 : -t * y = -(t * y) := Int.neg_mul ..
    omega
theorem addT_carry {c z p : Int} (hc : -16777216 ≤ c ∧ c ≤ 16777216) (hz : 0 ≤ z ∧ z < 16777216) (hp : -281474943156225 ≤ p ∧ p ≤ 16777215) :
    -16777216 ≤ (c + (z + p)) / 16777216 ∧ (c + (z + p)) / 16777216 ≤ 16777216 := by omega

/-- The highest limb of a part that is less than the divisor, or negative. -/
theorem top_zero {ps : List Int} {n : Nat} (hl : ps.length = n + 1) (hlim : Lim (ps.take n)) (h0 : 0 ≤ val ps) (h1 : val ps < 16777216 ^ n) : el ps n = 0 := by
  have h2 := val_take_succ ps n (by omega)
  rw [List.take_of_length_le (by omega)] at h2
  have h3 := val_lt hlim
  have h4 := val_nonneg hlim
  rw [List.length_take, Nat.min_eq_left (by omega)] at h3
  have hp := pow_pos n
  rcases Int.lt_trichotomy (el ps n) 0 with h | h | h
  · have : 16777216 ^ n * el ps n ≤ (16777216 : Int) ^ n * -1 := Int.mul_le_mul_of_nonneg_left (by omega) (by omega)
    omega
  · exact h
  · have : (16777216 : Int) ^ n * 1 ≤ 16777216 ^ n * el ps n := Int.mul_le_mul_of_nonneg_left (by omega) (by omega)
    omega
theorem top_neg {ps : List Int} {n : Nat} (hl : ps.length = n + 1) (hlim : Lim (ps.take n)) (h0 : val ps < 0) (h1 : -16777216 ^ n ≤ val ps) : el ps n = -1 := by
  have h2 := val_take_succ ps n (by omega)
  rw [List.take_of_length_le (by omega)] at h2
  have h3 := val_lt hlim
  have h4 := val_nonneg hlim
  rw [List.length_take, Nat.min_eq_left (by omega)] at h3
  have hp := pow_pos n
  rcases Int.lt_trichotomy (el ps n) (-1) with h | h | h
  · have : 16777216 ^ n * el ps n ≤ (16777216 : Int) ^ n * -2 := Int.mul_le_mul_of_nonneg_left (by omega) (by omega)
    omega
  · exact h
  · have : (16777216 : Int) ^ n * 0 ≤ 16777216 ^ n * el ps n := Int.mul_le_mul_of_nonneg_left (by omega) (by omega)
    omega
theorem lim_of_top {ps : List Int} {n : Nat} (hl : ps.length = n + 1) (hlim : Lim (ps.take n)) (h : el ps n = 0) : Lim ps := by
  refine lim_of_get fun i hi => ?_
  by_cases e : i = n
  · subst e; omega
  · have := hlim.get i
    rwa [el_take (by omega)] at this

/-- The guess of three limbs by two is the quotient, or one more. -/
theorem guess_ok {P D K P3 D2 p d : Nat} (hK : 0 < K) (hP : P = P3 * K + p) (hp : p < K) (hD : D = D2 * K + d) (hd : d < K) (h2 : 16777216 ≤ D2) (hlt : P < D * 16777216) :
    P / D ≤ min (P3 / D2) 16777215 ∧ min (P3 / D2) 16777215 ≤ P / D + 1 := by
  have hD0 : 0 < D := by
    have : 0 < D2 * K := Nat.mul_pos (by omega) hK
    omega
  have hq : P / D * D ≤ P := Nat.div_mul_le_self P D
  constructor
  · refine Nat.le_min.2 ⟨?_, ?_⟩
    · rw [Nat.le_div_iff_mul_le (by omega)]
      have h3 : P / D * D2 * K ≤ P / D * D := by
        rw [Nat.mul_assoc]; exact Nat.mul_le_mul_left _ (by omega)
      have h4 : P / D * D2 * K < (P3 + 1) * K := by rw [Nat.succ_mul]; omega
      exact Nat.le_of_lt_succ (Nat.lt_of_mul_lt_mul_right h4)
    · have : P / D < 16777216 := (Nat.div_lt_iff_lt_mul hD0).2 (by rwa [Nat.mul_comm] at hlt)
      omega
  · generalize hg : min (P3 / D2) 16777215 = g
    have g1 : g ≤ P3 / D2 := by omega
    have g2 : g ≤ 16777215 := by omega
    match g, g1, g2 with
    | 0, _, _ => exact Nat.zero_le _
    | s + 1, g1, g2 =>
      refine Nat.succ_le_succ ((Nat.le_div_iff_mul_le hD0).2 ?_)
      have h5 : (s + 1) * D2 ≤ P3 := (Nat.le_div_iff_mul_le (by omega)).1 g1
      have h6 : (s + 1) * D2 * K ≤ P3 * K := Nat.mul_le_mul_right _ h5
      have h7 : s * d ≤ D2 * K := Nat.le_trans (Nat.mul_le_mul (by omega : s ≤ D2) (Nat.le_of_lt hd)) (Nat.le_refl _)
      have h8 : s * D = s * D2 * K + s * d := by rw [hD, Nat.mul_add, Nat.mul_assoc]
      have h9 : (s + 1) * D2 * K = s * D2 * K + D2 * K := by rw [Nat.succ_mul, Nat.add_mul]
      omega

/-- Div64's step: q is not less than the quotient; if its test says that it is too great, one less still isn't. -/
theorem div_ge {U Y q : Nat} (hY : 0 < Y) (h : U < q * Y) : U / Y ≤ q - 1 := by
  have : U / Y < q := (Nat.div_lt_iff_lt_mul hY).2 h
  omega
theorem div_eq {U Y q : Nat} (hY : 0 < Y) (hq : U / Y ≤ q) (h : q * Y ≤ U) : U / Y = q :=
  Nat.le_antisymm hq ((Nat.le_div_iff_mul_le hY).2 h)

/-- The value of the limbs from place i on. -/
theorem val_split (zs : List Int) (i : Nat) : val zs = val (zs.take i) + 16777216 ^ (min i zs.length) * val (zs.drop i) := by
  have := val_append (zs.take i) (zs.drop i)
  rwa [List.take_append_drop, List.length_take] at this
end Go.Proofs.YtmejneobfkbgeaaDoor.M

namespace Go.Proofs.YtmejneobfkbgeaaDoor
open Go Go.RowKit Go.Shelf
attribute [local go_sem] mask24

theorem el_mid (xs qs us : List Int) (k : Nat) (hk : k < qs.length) : M.el (xs ++ qs ++ us) (xs.length + k) = M.el qs k := by
  rw [M.el_append_left (by simp; omega), M.el_append_right (by omega), Nat.add_sub_cancel_left]
theorem set_mid (xs qs us : List Int) (k : Nat) (u : Int) (hk : k < qs.length) : (xs ++ qs ++ us).set (xs.length + k) u = xs ++ qs.set k u ++ us := by
  rw [List.set_append_left _ _ (by simp; omega), List.set_append_right _ _ (by omega), Nat.add_sub_cancel_left]

theorem Own.mid {W : World} {B g cap L : Nat} {xs qs us : List Int} (h : Own W B (.slice (some ⟨g, 0, none⟩) L cap) (xs ++ qs ++ us)) (k : Nat) (hk : k < qs.length) :
    W.cell? ⟨g, xs.length + k, none⟩ = some (.int .i64 (M.el qs k)) ∧ W.frozen? ⟨g, xs.length + k, none⟩ = false ∧ B ≤ g ∧ g < W.heap.size ∧ cap ≤ 9223372036854775807 ∧ xs.length + qs.length ≤ cap := by
  have hl := h.len
  obtain ⟨g', e, hB, hW, h3, h4, hc, hf⟩ := h.at2 (xs.length + k) (by simp; omega)
  cases e
  rw [el_mid _ _ _ _ hk] at hc
  exact ⟨hc, hf, hB, hW, h4, by rw [List.length_append, List.length_append] at hl; omega⟩
theorem Own.setMid {W : World} {B g cap L : Nat} {xs qs us : List Int} (h : Own W B (.slice (some ⟨g, 0, none⟩) L cap) (xs ++ qs ++ us)) (k : Nat) (hk : k < qs.length) (u : Int) :
    Own (W.setCell ⟨g, xs.length + k, none⟩ (.int .i64 u)) B (.slice (some ⟨g, 0, none⟩) L cap) (xs ++ qs.set k u ++ us) := by
  have hl := h.len
  subst hl
  have := h.set (xs.length + k) u
  rwa [set_mid _ _ _ _ _ hk] at this
theorem grown_trans {a b c : World} {row : Option Nat} (h : a.grownBy b row) (k : b.grownBy c row) : a.grownBy c row :=
  ⟨k.os.trans h.os, k.tape.trans h.tape, k.output.trans h.output, Nat.le_trans h.size k.size, fun i hi hne => (k.block i (Nat.lt_of_lt_of_le hi h.size) hne).trans (h.block i hi hne)⟩
theorem grown_set {w W : World} {g : Nat} (h : w.grownBy W (some g)) (j : Nat) (u : Value) : w.grownBy (W.setCell ⟨g, j, none⟩ u) (some g) :=
  ⟨h.os, h.tape, h.output, by simpa [World.setCell] using h.size, fun k hk hne => (Below.heap_setCell W ⟨g, j, none⟩ u k (fun e => hne (by rw [e]))).trans (h.block k hk hne)⟩
theorem Row.grown {w W : World} {a : Option Addr} {zs : List Int} {cap : Nat} {row : Option Nat} (h : Row w a zs cap) (hg : w.grownBy W row) (hne : ∀ b off, a = some ⟨b, off, none⟩ → some b ≠ row) : Row W a zs cap :=
  ⟨h.room, h.most, fun j hj => by
    obtain ⟨b, off, e, hc⟩ := h.el j hj
    exact ⟨b, off, e, (World.cell?_of_block (hg.block b (lt_of_cell hc) (hne b off e))).trans hc⟩⟩

def AtRel (w : World) (B g cap L n : Nat) (xs ps us ds : List Int) (t : Int) (v i : Value) (wr : World) : Prop :=
  ∃ (k : Nat) (qs : List Int) (c : Int), i = .int .i64 (k : Int) ∧ v = .int .i64 c ∧ k ≤ n ∧ qs.length = n + 1 ∧ M.Lim (qs.take n) ∧ qs.drop k = ps.drop k ∧ M.val (qs.take k) + 16777216 ^ k * c = M.val (ps.take k) + t * M.val (ds.take k) ∧
    -16777216 ≤ c ∧ c ≤ 16777216 ∧ Own wr B (.slice (some ⟨g, 0, none⟩) L cap) (xs ++ qs ++ us) ∧ w.grownBy wr (some g)
def AtPost (w : World) (B g cap L n : Nat) (xs ps us ds : List Int) (t : Int) (e : Ending) (W : World) : Prop :=
  ∃ qs : List Int, e = .returned (.int .i64 (M.el qs n)) ∧ qs.length = n + 1 ∧ M.Lim (qs.take n) ∧ M.val qs = M.val ps + t * M.val ds ∧ Own W B (.slice (some ⟨g, 0, none⟩) L cap) (xs ++ qs ++ us) ∧ w.grownBy W (some g)

set_option maxRecDepth 100000 in
set_option maxHeartbeats 1000000 in
/-- **nat.addTimes** -/
theorem addTimes_any (B g cap L cp cd n : Nat) (xs ps us ds : List Int) (ad : Option Addr) (t : Int) (w : World) (hown : Own w B (.slice (some ⟨g, 0, none⟩) L cap) (xs ++ ps ++ us))
    (hlp : ps.length = n + 1) (hcp : n + 1 ≤ cp) (hd : Row w ad ds cd) (hld : ds.length = n) (hne : ∀ b off, ad = some ⟨b, off, none⟩ → b ≠ g)
    (hlimp : M.Lim (ps.take n)) (htop : -16777216 ≤ M.el ps n ∧ M.el ps n < 16777216) (hlimd : M.Lim ds) (ht : -16777216 < t ∧ t ≤ 1) :
    Calls Tryd.prog 88 #[.slice (some ⟨g, xs.length, none⟩) (n + 1) cp, .slice ad n cd, .int .i64 t] w (AtPost w B g cap L n xs ps us ds t) := by
  have hdm := hd.room
  have hdm2 := hd.most
  have HO0 := Lib.hid hown
  have HD := Lib.hid hd
  have HNE := Lib.hid hne
  have HLP := Lib.hid hlp
  have HLD := Lib.hid hld
  have HLIMP := Lib.hid hlimp
  have HLIMD := Lib.hid hlimd
  have HTOP := Lib.hid htop
  clear hown hd hne hlp hlimp hlimd htop
  rw [hld] at hdm
  clear hld
  go_enter Tryd.func88, Tryd.ntmps88
  go_wp2
  go_loopw [7, 12] (fun c i wr => AtRel w B g cap L n xs ps us ds t c i wr) (fun _ i _ => n - (intOf i).toNat)
  case atStart => exact ⟨0, ps, 0, rfl, rfl, Nat.zero_le _, HLP.out, HLIMP.out, rfl, by simp [M.val], by omega, by omega, HO0.out, World.grownBy.refl _ _⟩
  case round =>
    obtain ⟨k, qs, c, rfl, rfl, hk, hlq, hlimq, hdrop, hval, hc0, hc1, hown, hgr⟩ := hrel
    have HLQ := Lib.hid hlq
    have HLIMQ := Lib.hid hlimq
    have HDR := Lib.hid hdrop
    have HV := Lib.hid hval
    have HO := Lib.hid hown
    have HG := Lib.hid hgr
    have hsz := hgr.size
    clear hlq hlimq hdrop hval hown hgr
    have hez : M.el qs k = M.el ps k := by
      have := congrArg (fun l => M.el l 0) HDR.out
      simpa only [M.el_drop, Nat.add_zero] using this
    by_cases hlt : k < n
    · have hD := HD.out.grown HG.out (fun b off e => by intro h; cases h; exact HNE.out _ _ e rfl)
      obtain ⟨db, dof, rfl, hcd⟩ := hD.el k (by rw [HLD.out]; exact hlt)
      obtain ⟨hcz, hfz, hgB, hgW, hcap, hcap2⟩ := HO.out.mid k (by rw [HLQ.out]; omega)
      rw [HLQ.out] at hcap2
      have hz := HLIMP.out.get k
      rw [M.el_take hlt, ← hez] at hz
      have hy := HLIMD.out.get k
      have hpr := M.addT_prod hy ht
      have hcr := M.addT_carry (c := c) ⟨hc0, hc1⟩ hz hpr
      obtain ⟨X, hX⟩ : ∃ X, t * M.el ds k = X := ⟨_, rfl⟩
      rw [hX] at hpr hcr
      have HX := Lib.hid hX
      have hXw : IntKind.i64.wrap (t * M.el ds k) = X := by rw [hX, IntKind.wrap_i64]; omega
      have HEZ := Lib.hid hez
      clear hez hX hD
      obtain ⟨z, hz'⟩ : ∃ z, M.el qs k = z := ⟨_, rfl⟩
      rw [hz'] at hcz hz hcr
      have HZ := Lib.hid hz'
      clear hz'
      go_wp2
      go_roundw
      case rel =>
        have hkl : k < qs.length := by rw [HLQ.out]; omega
        refine ⟨k + 1, qs.set k ((c + (z + X)) % 16777216), (c + (z + X)) / 16777216, by go_num, rfl, by omega, by rw [List.length_set]; exact HLQ.out, ?_, ?_, ?_, hcr.1, hcr.2, HO.out.setMid k hkl _, grown_set HG.out _ _⟩
        · rw [List.take_set]
          exact HLIMQ.out.set _ (by omega) (by omega)
        · rw [List.drop_set_of_lt (by omega)]
          have := congrArg (List.drop 1) HDR.out
          rwa [List.drop_drop, List.drop_drop] at this
        · rw [M.val_set_succ _ _ _ hkl, M.val_take_succ', M.val_take_succ', Int.pow_succ, ← HEZ.out, HZ.out]
          have := M.addT_step (z := z) (y := M.el ds k) HV.out
          rwa [HX.out] at this
      case measure => simp [intOf]; omega
    · obtain rfl : k = n := by omega
      obtain ⟨hcz, hfz, hgB, hgW, hcap, hcap2⟩ := HO.out.mid k (by rw [HLQ.out]; omega)
      rw [HLQ.out] at hcap2
      have htop := HTOP.out
      rw [← hez] at htop
      have HEZ := Lib.hid hez
      clear hez
      obtain ⟨z, hz'⟩ : ∃ z, M.el qs k = z := ⟨_, rfl⟩
      rw [hz'] at hcz htop
      have HZ := Lib.hid hz'
      clear hz'
      go_wp2
      go_ret
      have hkl : k < qs.length := by rw [HLQ.out]; omega
      refine ⟨qs.set k (z + c), (show _ = Ending.returned (Value.int .i64 (z + c)) from rfl).trans (by rw [M.el_set _ _ _ _ hkl, if_pos rfl]), by rw [List.length_set]; exact HLQ.out, ?_, ?_, HO.out.setMid k hkl _, grown_set HG.out _ _⟩
      · rw [List.take_set_of_le (Nat.le_refl _)]
        exact HLIMQ.out
      · have h1 := M.val_take_succ qs k hkl
        have h2 := M.val_take_succ ps k (by rw [HLP.out]; omega)
        rw [List.take_of_length_le (by rw [HLQ.out]; omega)] at h1
        rw [List.take_of_length_le (by rw [HLP.out]; omega)] at h2
        have h3 := HV.out
        rw [List.take_of_length_le (l := ds) (by rw [HLD.out]; omega)] at h3
        rw [M.val_set _ _ _ hkl, h1, h2, HZ.out, ← HEZ.out, HZ.out, show z + c - z = c by omega]
        omega
end Go.Proofs.YtmejneobfkbgeaaDoor

namespace Go.Proofs.YtmejneobfkbgeaaDoor
open Go Go.RowKit Go.Shelf

def lzRen : Go.Shelf.Ren := ⟨fun | 129 => 86 | 134 => 95 | n => n, fun | 46 => 63 | 3 => 3 | 53 => 109 | 4 => 4 | 5 => 5 | 9 => 9 | n => n, fun | n => n⟩
theorem lzLays : Go.Proofs.Lays.n134 Tryd.prog lzRen := {
  mixed := by kernel_rfl
  f129 := Tryd.func86.trans (congrArg some (by kernel_rfl))
  f134 := Tryd.func95.trans (congrArg some (by kernel_rfl))
  t3 := Tryd.underlying3
  a3 := Tryd.isAgg3
  z3 := Tryd.sizeOf3
  v3 := Tryd.zeroValue3
  t4 := Tryd.underlying4
  a4 := Tryd.isAgg4
  z4 := Tryd.sizeOf4
  v4 := Tryd.zeroValue4
  t5 := Tryd.underlying5
  a5 := Tryd.isAgg5
  z5 := Tryd.sizeOf5
  v5 := Tryd.zeroValue5
  t9 := Tryd.underlying9
  a9 := Tryd.isAgg9
  z9 := Tryd.sizeOf9
  v9 := Tryd.zeroValue9
  t46 := Tryd.underlying63
  a46 := Tryd.isAgg63
  z46 := Tryd.sizeOf63
  v46 := Tryd.zeroValue63
  t53 := Tryd.underlying109
  a53 := Tryd.isAgg109
  z53 := Tryd.sizeOf109
  v53 := Tryd.zeroValue109 }

theorem len48 (n : Nat) (h0 : 140737488355328 ≤ n) (h1 : n < 281474976710656) : Lib.bitLen n = 48 := by
  rw [Lib.bitLen_shift 47 n (by omega) (by omega), show n / 2 ^ 47 = 1 by omega]
  rfl
theorem lz_48 (y : Int) (w : World) (h0 : 140737488355328 ≤ y) (h1 : y < 281474976710656) :
    Calls Tryd.prog 95 #[.int .u64 y] w fun e w' => e = .returned (.int .i64 16) ∧ w' = w := by
  refine (show Calls Tryd.prog 95 #[.int .u64 y] w _ from Any.bits_LeadingZeros64 lzLays y w (by omega) (by omega)).mono ?_
  rintro e w' ⟨rfl, rfl⟩
  rw [len48 y.toNat (by omega) (by omega)]
  exact ⟨rfl, rfl⟩

theorem mask32u (x : Int) : bits BinOp.and IntKind.u64 x 4294967295 = x % 4294967296 := by
  show IntKind.u64.wrap ((BitVec.ofInt 64 x &&& BitVec.ofInt 64 4294967295).toNat : Int) = _
  have h1 := toNat_ofInt64 x
  have h2 : (BitVec.ofInt 64 4294967295).toNat = 2 ^ 32 - 1 := by decide
  rw [BitVec.toNat_and, h2, Nat.and_two_pow_sub_one_eq_mod, IntKind.wrap_u64]
  omega
theorem or16u (x y : Int) (hx : 0 ≤ x) (hx2 : x < 281474976710656) (hy : 0 ≤ y) (hy2 : y < 65536) : bits BinOp.or IntKind.u64 (x * 65536) y = x * 65536 + y := by
  show IntKind.u64.wrap ((BitVec.ofInt 64 (x * 65536) ||| BitVec.ofInt 64 y).toNat : Int) = _
  have h1 := toNat_ofInt64 (x * 65536)
  have h2 := toNat_ofInt64 y
  obtain ⟨a, rfl⟩ := Int.eq_ofNat_of_zero_le hx
  obtain ⟨b, rfl⟩ := Int.eq_ofNat_of_zero_le hy
  have e1 : (BitVec.ofInt 64 ((a : Int) * 65536)).toNat = 2 ^ 16 * a := by omega
  have e2 : (BitVec.ofInt 64 (b : Int)).toNat = b := by omega
  rw [BitVec.toNat_or, e1, e2, ← Nat.two_pow_add_eq_or_of_lt (by omega), IntKind.wrap_u64]
  omega
theorem or24u (x y : Int) (hx : 0 ≤ x) (hx2 : x < 1099511627776) (hy : 0 ≤ y) (hy2 : y < 16777216) : bits BinOp.or IntKind.u64 (x * 16777216) y = x * 16777216 + y := by
  show IntKind.u64.wrap ((BitVec.ofInt 64 (x * 16777216) ||| BitVec.ofInt 64 y).toNat : Int) = _
  have h1 := toNat_ofInt64 (x * 16777216)
  have h2 := toNat_ofInt64 y
  obtain ⟨a, rfl⟩ := Int.eq_ofNat_of_zero_le hx
  obtain ⟨b, rfl⟩ := Int.eq_ofNat_of_zero_le hy
  have e1 : (BitVec.ofInt 64 ((a : Int) * 16777216)).toNat = 2 ^ 24 * a := by omega
  have e2 : (BitVec.ofInt 64 (b : Int)).toNat = b := by omega
  rw [BitVec.toNat_or, e1, e2, ← Nat.two_pow_add_eq_or_of_lt (by omega), IntKind.wrap_u64]
  omega

theorem div64_le {U y m b p r Q R : Int} (hV : m * 4294967296 + b = U * 65536) (hW : p * 4294967296 + r = y * 65536) (hQ : Q * p + R = m) (h : Q * r ≤ 4294967296 * R + b) : Q * y ≤ U := by
  have h1 : Q * (p * 4294967296 + r) = Q * p * 4294967296 + Q * r := by rw [Int.mul_add, Int.mul_assoc]
  have h2 : Q * (y * 65536) = Q * y * 65536 := by rw [Int.mul_assoc]
  rw [hW, h2] at h1
  omega
theorem div64_lt {U y m b p r Q R : Int} (hV : m * 4294967296 + b = U * 65536) (hW : p * 4294967296 + r = y * 65536) (hQ : Q * p + R = m) (h : 4294967296 * R + b < Q * r) : U < Q * y := by
  have h1 : Q * (p * 4294967296 + r) = Q * p * 4294967296 + Q * r := by rw [Int.mul_add, Int.mul_assoc]
  have h2 : Q * (y * 65536) = Q * y * 65536 := by rw [Int.mul_assoc]
  rw [hW, h2] at h1
  omega
theorem div64_start {U y m b p r : Int} (hV : m * 4294967296 + b = U * 65536) (hW : p * 4294967296 + r = y * 65536) (hb : b < 4294967296) (hp : 0 < p) (hr : 0 ≤ r) (hy : 0 < y) (hU : 0 ≤ U) : U / y ≤ m / p := by
  refine Int.le_ediv_of_mul_le hp ?_
  have h0 : U / y * y ≤ U := Int.ediv_mul_le U (by omega)
  have hk : 0 ≤ U / y := Int.ediv_nonneg hU (by omega)
  generalize U / y = k at *
  have h1 : k * (p * 4294967296 + r) = k * p * 4294967296 + k * r := by rw [Int.mul_add, Int.mul_assoc]
  have h2 : k * (y * 65536) = k * y * 65536 := by rw [Int.mul_assoc]
  have h3 : 0 ≤ k * r := Int.mul_nonneg hk hr
  rw [hW, h2] at h1
  omega
theorem div64_prod {Q r : Int} (h0 : 0 ≤ Q) (h1 : Q < 33554432) (hr : 0 ≤ r ∧ r < 4294967296) : 0 ≤ Q * r ∧ Q * r < 144115188075855872 := by
  refine ⟨Int.mul_nonneg h0 hr.1, ?_⟩
  have := Int.mul_le_mul (a := Q) (b := r) (c := 33554431) (d := 4294967295) (by omega) (by omega) hr.1 (by decide)
  omega
theorem div64_eq {U y Q : Int} (hy : 0 < y) (h : U / y ≤ Q) (hl : Q * y ≤ U) : U / y = Q := Int.le_antisymm h (Int.le_ediv_of_mul_le hy hl)
theorem div64_down {U y Q : Int} (hy : 0 < y) (h : U < Q * y) : U / y ≤ Q - 1 := by
  have := Int.ediv_lt_of_lt_mul hy h
  omega

def Div64Rel (hi lo y m p q : Int) (v1 v2 : Value) : Prop :=
  ∃ Q R : Int, v1 = .int .u64 Q ∧ v2 = .int .u64 R ∧ Q * p + R = m ∧ 0 ≤ Q ∧ Q ≤ q ∧ 0 ≤ R ∧ R < 4294967296 ∧ (hi * 18446744073709551616 + lo) / y ≤ Q

set_option maxRecDepth 100000 in
set_option maxHeartbeats 1000000 in
theorem div64_any (hi lo y : Int) (w : World) (h0 : 0 ≤ hi) (h1 : hi < 256) (l0 : 0 ≤ lo) (l1 : lo < 18446744073709551616) (y0 : 140737488355328 ≤ y) (y1 : y < 281474976710656) :
    Calls Tryd.prog 93 #[.int .u64 hi, .int .u64 lo, .int .u64 y] w fun e w' => (∃ r, e = .returned (.tuple #[.int .u64 ((hi * 18446744073709551616 + lo) / y), r])) ∧ Below w.heap.size w w' := by
  have HLZ := Lib.hid (lz_48 y w y0 y1)
  have n1 : ¬ y = 0 := by omega
  have n2 : ¬ y ≤ hi := by omega
  by_cases hz : hi = 0
  · subst hz
    go_enter Tryd.func93, Tryd.ntmps93
    go_wp2_with fail
    go_quiet (fail)
    go_wp2
    refine bodyPost_ret (v := .tuple #[.int .u64 (lo / y), .int .u64 (lo % y)]) (by simp [results, Tryd.results93, go_sem]) rfl ⟨⟨.int .u64 (lo % y), ?_⟩, belowN (Below.refl _ _) _⟩
    rw [Int.zero_mul, Int.zero_add]
  · obtain ⟨u, hu⟩ : ∃ u, u = hi * 65536 + lo / 281474976710656 := ⟨_, rfl⟩
    have e2 : bits BinOp.or IntKind.u64 (hi * 65536) (lo / 281474976710656) = u := by rw [or16u _ _ (by omega) (by omega) (by omega) (by omega), hu]
    obtain ⟨p, hp⟩ : ∃ p, y * 65536 / 4294967296 = p := ⟨_, rfl⟩
    obtain ⟨r, hr⟩ : ∃ r, (y * 65536) % 4294967296 = r := ⟨_, rfl⟩
    have e3 : bits BinOp.and IntKind.u64 (y * 65536) 4294967295 = r := by rw [mask32u, hr]
    obtain ⟨z, hzz⟩ : ∃ z, IntKind.u64.wrap (lo * 65536) = z := ⟨_, rfl⟩
    have hz' : z = (lo * 65536) % 18446744073709551616 := by rw [← hzz, IntKind.wrap_u64]
    obtain ⟨a, ha⟩ : ∃ a, z / 4294967296 = a := ⟨_, rfl⟩
    obtain ⟨b, hb⟩ : ∃ b, z % 4294967296 = b := ⟨_, rfl⟩
    have e4 : bits BinOp.and IntKind.u64 z 4294967295 = b := by rw [mask32u, hb]
    have hu0 : 0 ≤ u ∧ u < 16777216 := by omega
    have hp0 : 2147483648 ≤ p ∧ p < 4294967296 := by omega
    have hr0 : 0 ≤ r ∧ r < 4294967296 := by omega
    have ha0 : 0 ≤ a ∧ a < 4294967296 := by omega
    have hb0 : 0 ≤ b ∧ b < 4294967296 := by omega
    have hy' : p * 4294967296 + r = y * 65536 := by omega
    have hU : u * 18446744073709551616 + (a * 4294967296 + b) = (hi * 18446744073709551616 + lo) * 65536 := by omega
    have e5 : IntKind.u64.wrap (u.tdiv p) = 0 := by
      rw [Int.tdiv_eq_ediv_of_nonneg hu0.1, Int.ediv_eq_zero_of_lt hu0.1 (by omega)]; rfl
    have e6 : IntKind.u64.wrap u = u := by rw [IntKind.wrap_u64]; omega
    obtain ⟨m, hm⟩ : ∃ m, u * 4294967296 + a = m := ⟨_, rfl⟩
    obtain ⟨q, hq⟩ : ∃ q, q = m / p := ⟨_, rfl⟩
    have e9 : IntKind.u64.wrap (m.tdiv p) = q := by
      rw [Int.tdiv_eq_ediv_of_nonneg (by omega), ← hq, IntKind.wrap_u64]
      have h1 : q < 33554432 := by rw [hq]; exact Int.ediv_lt_of_lt_mul (by omega) (by omega)
      have h2 : 0 ≤ q := by rw [hq]; exact Int.ediv_nonneg (by omega) (by omega)
      omega
    have hq1 : q < 33554432 := by rw [hq]; exact Int.ediv_lt_of_lt_mul (by omega) (by omega)
    have hq2 : 0 ≤ q := by rw [hq]; exact Int.ediv_nonneg (by omega) (by omega)
    have ht0 : q * p + m % p = m := by rw [hq, Int.mul_comm]; exact Int.mul_ediv_add_emod m p
    have ht1 : 0 ≤ m % p := Int.emod_nonneg _ (by omega)
    have ht2 : m % p < p := Int.emod_lt_of_pos _ (by omega)
    have hqp := Int.mul_nonneg hq2 (by omega : 0 ≤ p)
    obtain ⟨t, ht⟩ : ∃ t, t = q * p := ⟨_, rfl⟩
    have e10 : IntKind.u64.wrap (q * p) = t := by rw [ht, IntKind.wrap_u64]; omega
    obtain ⟨rh, hrh⟩ : ∃ rh, m - t = rh := ⟨_, rfl⟩
    have hrh0 : 0 ≤ rh ∧ rh < p := by omega
    have htm : 0 ≤ t ∧ t ≤ m := by omega
    have hst : (hi * 18446744073709551616 + lo) / y ≤ q := by
      rw [hq]
      exact div64_start (b := b) (r := r) (by omega) hy' (by omega) (by omega) (by omega) (by omega) (by omega)
    have hV : m * 4294967296 + b = (hi * 18446744073709551616 + lo) * 65536 := by omega
    have hQ0 : q * p + rh = m := by omega
    have HY := Lib.hid hy'
    have HU := Lib.hid hV
    have HST := Lib.hid hst
    have HQ0 := Lib.hid hQ0
    clear hu hz' hy' hU hr hb hq ht0 ht1 ht2 hqp ht hst hV hQ0
    go_enter Tryd.func93, Tryd.ntmps93
    go_wp2_with fail
    refine HLZ.out.mono ?_
    rintro e w' ⟨rfl, rfl⟩
    go_wp2_with fail
    go_loopw [15, 16] (fun q1 rr wr => q1 = .int .u64 0 ∧ rr = .int .u64 u ∧ Below w'.heap.size w' wr) (fun _ _ _ => 0)
    case atStart => exact ⟨rfl, rfl, Below.refl _ _⟩
    case round =>
      obtain ⟨rfl, rfl, hb1⟩ := hrel
      have HB1 := Lib.hid hb1
      clear hb1
      go_wp2_with fail
      go_loopw [18, 16] (fun v1 v2 wr => Div64Rel hi lo y m p q v1 v2 ∧ Below w'.heap.size w' wr) (fun v1 _ _ => (intOf v1).toNat)
      case atStart => exact ⟨⟨q, rh, rfl, rfl, HQ0.out, hq2, Int.le_refl _, hrh0.1, by omega, HST.out⟩, HB1.out⟩
      case round =>
        obtain ⟨⟨Q, R, rfl, rfl, hQR, hQ0, hQ1, hR0, hR1, hge⟩, hb2⟩ := hrel
        have HB2 := Lib.hid hb2
        have HQR := Lib.hid hQR
        have HGE := Lib.hid hge
        have hQr := div64_prod hQ0 (by omega) hr0
        obtain ⟨X, hX⟩ : ∃ X, X = Q * r := ⟨_, rfl⟩
        rw [← hX] at hQr
        have e11 : IntKind.u64.wrap (Q * r) = X := by rw [← hX, IntKind.wrap_u64]; omega
        have HX := Lib.hid hX
        clear hX hb2 hQR hge
        by_cases ht : 4294967296 * R + b < X
        · have hQ2 : 0 < Q := by
            rcases Int.lt_or_le 0 Q with h | h
            · exact h
            · obtain rfl : Q = 0 := by omega
              have := HX.out
              rw [Int.zero_mul] at this
              omega
          have hd : (hi * 18446744073709551616 + lo) / y ≤ Q - 1 := div64_down (by omega) (div64_lt HU.out HY.out HQR.out (by rw [← HX.out]; exact ht))
          have hQp : (Q - 1) * p + (R + p) = m := by have := HQR.out; rw [Int.sub_mul]; omega
          have HD := Lib.hid hd
          have HQP := Lib.hid hQp
          clear hd hQp
          by_cases hbk : 4294967296 ≤ R + p
          · have hw : IntKind.u64.wrap (R + p) = R + p := by rw [IntKind.wrap_u64]; omega
            go_wp2_with fail
            refine bodyPost_ret (v := .tuple #[.int .u64 (Q - 1), .int .u64 (IntKind.u64.wrap (IntKind.u64.wrap (IntKind.u64.wrap (m * 4294967296) + b) - IntKind.u64.wrap ((Q - 1) * (y * 65536))) / 65536)]) (by simp [results, Tryd.results93, go_sem]) rfl ⟨⟨.int .u64 (IntKind.u64.wrap (IntKind.u64.wrap (IntKind.u64.wrap (m * 4294967296) + b) - IntKind.u64.wrap ((Q - 1) * (y * 65536))) / 65536), ?_⟩, HB2.out⟩
            have h3 := div64_prod (Q := Q - 1) (r := r) (by omega) (by omega) hr0
            rw [div64_eq (by omega) HD.out (div64_le HU.out HY.out HQP.out (by omega))]
          · go_wp2_with fail
            go_roundw
            case rel => exact ⟨⟨Q - 1, R + p, rfl, rfl, HQP.out, by omega, by omega, by omega, by omega, HD.out⟩, HB2.out⟩
            case measure => simp [intOf]; omega
        · go_wp2_with fail
          refine bodyPost_ret (v := .tuple #[.int .u64 Q, .int .u64 (IntKind.u64.wrap (IntKind.u64.wrap (IntKind.u64.wrap (m * 4294967296) + b) - IntKind.u64.wrap (Q * (y * 65536))) / 65536)]) (by simp [results, Tryd.results93, go_sem]) rfl ⟨⟨.int .u64 (IntKind.u64.wrap (IntKind.u64.wrap (IntKind.u64.wrap (m * 4294967296) + b) - IntKind.u64.wrap (Q * (y * 65536))) / 65536), ?_⟩, HB2.out⟩
          rw [div64_eq (by omega) HGE.out (div64_le HU.out HY.out HQR.out (by rw [← HX.out]; omega))]
end Go.Proofs.YtmejneobfkbgeaaDoor

namespace Go.Proofs.YtmejneobfkbgeaaDoor
open Go Go.RowKit Go.Shelf

/-- The three highest limbs of a part by the two highest of the divisor. -/
theorem guess_any (ap ad : Option Addr) (ps ds : List Int) (cp cd n : Nat) (w : World) (hp : Row w ap ps cp) (hd : Row w ad ds cd) (hlp : ps.length = n + 2 + 1) (hld : ds.length = n + 2)
    (hlimp : M.Lim ps) (hlimd : M.Lim ds) (htop : 8388608 ≤ M.el ds (n + 1)) :
    Calls Tryd.prog 87 #[.slice ap ps.length cp, .slice ad ds.length cd] w fun e w' =>
      e = .returned (.int .i64 (min ((M.el ps (n + 2) * 281474976710656 + M.el ps (n + 1) * 16777216 + M.el ps n) / (M.el ds (n + 1) * 16777216 + M.el ds n)) 16777215)) ∧ Below w.heap.size w w' := by
  obtain ⟨pb, po, rfl, c2⟩ := hp.el (n + 2) (by omega)
  have c1 := hp.cell (n + 1) (by omega)
  have c0 := hp.cell n (by omega)
  obtain ⟨db, dof, rfl, d1⟩ := hd.el (n + 1) (by omega)
  have d0 := hd.cell n (by omega)
  have b2 := hlimp.get (n + 2)
  have b1 := hlimp.get (n + 1)
  have b0 := hlimp.get n
  have f1 := hlimd.get (n + 1)
  have f0 := hlimd.get n
  have hm := hp.room
  have hm' := hp.most
  have hr := hd.room
  have hr' := hd.most
  generalize hx2 : M.el ps (n + 2) = x2 at *
  generalize hx1 : M.el ps (n + 1) = x1 at *
  generalize hx0 : M.el ps n = x0 at *
  generalize hy1 : M.el ds (n + 1) = y1 at *
  generalize hy0 : M.el ds n = y0 at *
  clear hx2 hx1 hx0 hy1 hy0 hp hd hlimp hlimd
  rw [hlp, hld]
  rw [hlp] at hm
  rw [hld] at hr
  clear hlp hld
  obtain ⟨H, hH⟩ : ∃ H, H = x2 * 16777216 + x1 := ⟨_, rfl⟩
  have e1 : bits BinOp.or IntKind.u64 (x2 * 16777216) x1 = H := by rw [or24u _ _ (by omega) (by omega) (by omega) (by omega), hH]
  obtain ⟨L, hL⟩ : ∃ L, IntKind.u64.wrap (H * 16777216) = L := ⟨_, rfl⟩
  obtain ⟨K, hK⟩ : ∃ K, K = L + x0 := ⟨_, rfl⟩
  have e2 : bits BinOp.or IntKind.u64 L x0 = K := by
    rw [IntKind.wrap_u64] at hL
    rw [show L = (H % 1099511627776) * 16777216 by omega, or24u _ _ (by omega) (by omega) (by omega) (by omega)]
    omega
  obtain ⟨T, hT⟩ : ∃ T, T = y1 * 16777216 + y0 := ⟨_, rfl⟩
  have e3 : bits BinOp.or IntKind.u64 (y1 * 16777216) y0 = T := by rw [or24u _ _ (by omega) (by omega) (by omega) (by omega), hT]
  have hL' : L = (H * 16777216) % 18446744073709551616 := by rw [← hL, IntKind.wrap_u64]
  have hUU : H / 1099511627776 * 18446744073709551616 + K = x2 * 281474976710656 + x1 * 16777216 + x0 := by omega
  have hdv := fun W : World => div64_any (H / 1099511627776) K T W (by omega) (by omega) (by omega) (by omega) (by omega) (by omega)
  rw [← hT, ← hUU]
  obtain ⟨t, ht⟩ : ∃ t, (H / 1099511627776 * 18446744073709551616 + K) / T = t := ⟨_, rfl⟩
  have ht0 : 0 ≤ t ∧ t < 33554432 := by
    rw [← ht]
    exact ⟨Int.ediv_nonneg (by omega) (by omega), Int.ediv_lt_of_lt_mul (by omega) (by omega)⟩
  rw [ht] at hdv
  rw [ht]
  have HDV := Lib.hid hdv
  clear ht hdv hUU hT hL' hK hH
  go_enter Tryd.func87, Tryd.ntmps87
  go_wp2_with fail
  go_quiet (fail)
  go_wp2_with fail
  go_quiet (fail)
  go_wp2_with fail
  refine (HDV.out _).mono ?_
  rintro e w1 ⟨⟨r, rfl⟩, hb1⟩
  have HB1 := Lib.hid hb1
  clear hb1
  go_wp2_with fail
  go_ret
  exact ⟨rfl, (belowN (Below.refl _ w) _).trans HB1.out⟩
end Go.Proofs.YtmejneobfkbgeaaDoor

namespace Go.Proofs.YtmejneobfkbgeaaDoor.M

theorem val_three (ps : List Int) (n : Nat) (h : ps.length = n + 2 + 1) : val ps = (el ps (n + 2) * 281474976710656 + el ps (n + 1) * 16777216 + el ps n) * 16777216 ^ n + val (ps.take n) := by
  have h1 := val_take_succ ps n (by omega)
  have h2 := val_take_succ ps (n + 1) (by omega)
  have h3 := val_take_succ ps (n + 2) (by omega)
  rw [List.take_of_length_le (by omega)] at h3
  have q2 : (16777216 : Int) ^ (n + 2) = 16777216 ^ n * 281474976710656 := by rw [Int.pow_succ, Int.pow_succ, Int.mul_assoc]; rfl
  have q1 : (16777216 : Int) ^ (n + 1) = 16777216 ^ n * 16777216 := Int.pow_succ ..
  rw [h3, h2, h1, q2, q1]
  clear h1 h2 h3 q1 q2 h
  generalize (16777216 : Int) ^ n = K
  generalize el ps n = a
  generalize el ps (n + 1) = b
  generalize el ps (n + 2) = c
  grind
theorem val_two (ds : List Int) (n : Nat) (h : ds.length = n + 2) : val ds = (el ds (n + 1) * 16777216 + el ds n) * 16777216 ^ n + val (ds.take n) := by
  have h1 := val_take_succ ds n (by omega)
  have h2 := val_take_succ ds (n + 1) (by omega)
  rw [List.take_of_length_le (by omega)] at h2
  have q1 : (16777216 : Int) ^ (n + 1) = 16777216 ^ n * 16777216 := Int.pow_succ ..
  rw [h2, h1, q1]
  clear h1 h2 q1 h
  generalize (16777216 : Int) ^ n = K
  generalize el ds n = a
  generalize el ds (n + 1) = b
  grind

theorem val_pos_top {ds : List Int} {n : Nat} (hl : ds.length = n + 2) (hd : Lim ds) (htop : 8388608 ≤ el ds (n + 1)) : 0 < val ds := by
  have h := val_two ds n hl
  have h1 := val_nonneg (hd.take n)
  have h2 := hd.get n
  have h3 := pow_pos n
  have := Int.mul_pos (show 0 < el ds (n + 1) * 16777216 + el ds n by omega) h3
  omega

theorem guess_int {ps ds : List Int} {n : Nat} (hlp : ps.length = n + 2 + 1) (hld : ds.length = n + 2) (hp : Lim ps) (hd : Lim ds) (htop : 8388608 ≤ el ds (n + 1)) (hlt : val ps < val ds * 16777216) :
    val ps / val ds ≤ min ((el ps (n + 2) * 281474976710656 + el ps (n + 1) * 16777216 + el ps n) / (el ds (n + 1) * 16777216 + el ds n)) 16777215 ∧
    min ((el ps (n + 2) * 281474976710656 + el ps (n + 1) * 16777216 + el ps n) / (el ds (n + 1) * 16777216 + el ds n)) 16777215 ≤ val ps / val ds + 1 ∧
    0 ≤ min ((el ps (n + 2) * 281474976710656 + el ps (n + 1) * 16777216 + el ps n) / (el ds (n + 1) * 16777216 + el ds n)) 16777215 := by
  have b2 := hp.get (n + 2)
  have b1 := hp.get (n + 1)
  have b0 := hp.get n
  have f1 := hd.get (n + 1)
  have f0 := hd.get n
  have e1 := val_three ps n hlp
  have e2 := val_two ds n hld
  have l1 := val_lt (hp.take n)
  have l2 := val_lt (hd.take n)
  have m1 := val_nonneg (hp.take n)
  have m2 := val_nonneg (hd.take n)
  have n1 := val_nonneg hp
  have n2 := val_nonneg hd
  rw [List.length_take, Nat.min_eq_left (by omega)] at l1 l2
  generalize hP3 : el ps (n + 2) * 281474976710656 + el ps (n + 1) * 16777216 + el ps n = P3 at *
  generalize hD2 : el ds (n + 1) * 16777216 + el ds n = D2 at *
  generalize val (ps.take n) = p at *
  generalize val (ds.take n) = d at *
  generalize val ps = P at *
  generalize val ds = D at *
  obtain ⟨P3', rfl⟩ := Int.eq_ofNat_of_zero_le (show 0 ≤ P3 by omega)
  obtain ⟨D2', rfl⟩ := Int.eq_ofNat_of_zero_le (show 0 ≤ D2 by omega)
  obtain ⟨p', rfl⟩ := Int.eq_ofNat_of_zero_le m1
  obtain ⟨d', rfl⟩ := Int.eq_ofNat_of_zero_le m2
  obtain ⟨P', rfl⟩ := Int.eq_ofNat_of_zero_le n1
  obtain ⟨D', rfl⟩ := Int.eq_ofNat_of_zero_le n2
  rw [← pow_cast] at e1 e2 l1 l2
  have k := guess_ok (P := P') (D := D') (K := 16777216 ^ n) (P3 := P3') (D2 := D2') (p := p') (d := d') (Nat.pow_pos (by decide)) (by exact_mod_cast e1) (by exact_mod_cast l1) (by exact_mod_cast e2) (by exact_mod_cast l2) (by omega) (by omega)
  rw [← Int.natCast_ediv, ← Int.natCast_ediv]
  revert k
  generalize P3' / D2' = x
  generalize P' / D' = y
  intro k
  omega

/-- What is left when the quotient, or one more, was taken out. -/
theorem take_zero {P D q : Int} (hD : 0 < D) (h : q = P / D) : 0 ≤ P + -q * D ∧ P + -q * D < D ∧ P + -q * D = P % D := by
  have h1 := Int.mul_ediv_add_emod P D
  have h2 := Int.emod_nonneg P (show D ≠ 0 by omega)
  have h3 := Int.emod_lt_of_pos P hD
  have h4 : -q * D = -(D * (P / D)) := by rw [h, Int.neg_mul, Int.mul_comm]
  omega
theorem take_one {P D q : Int} (hD : 0 < D) (h : q = P / D + 1) : P + -q * D < 0 ∧ -D ≤ P + -q * D ∧ P + -q * D + D = P % D := by
  have h1 := Int.mul_ediv_add_emod P D
  have h2 := Int.emod_nonneg P (show D ≠ 0 by omega)
  have h3 := Int.emod_lt_of_pos P hD
  have h4 : -q * D = -(D * (P / D)) - D := by rw [h, Int.neg_mul, Int.add_mul, Int.mul_comm (P / D)]; omega
  omega
end Go.Proofs.YtmejneobfkbgeaaDoor.M

namespace Go.Proofs.YtmejneobfkbgeaaDoor
open Go Go.RowKit Go.Shelf

theorem Own.midRow {W : World} {B g cap L : Nat} {xs qs us : List Int} (h : Own W B (.slice (some ⟨g, 0, none⟩) L cap) (xs ++ qs ++ us)) {cp : Nat} (hc : qs.length ≤ cp) (hc2 : cp ≤ 9223372036854775807) : Row W (some ⟨g, xs.length, none⟩) qs cp :=
  ⟨hc, hc2, fun j hj => ⟨g, xs.length, rfl, (h.mid j hj).1⟩⟩

theorem grown_any {w W : World} {row : Option Nat} (h : Below w.heap.size w W) : w.grownBy W row := ⟨h.os, h.tape, h.output, h.size, fun k hk _ => h.block k hk⟩

def ToPost (w : World) (B g cap L n : Nat) (xs ps us ds : List Int) (e : Ending) (W : World) : Prop :=
  ∃ qs : List Int, e = .returned (.int .i64 (M.val ps / M.val ds)) ∧ qs.length = n + 2 + 1 ∧ M.Lim qs ∧ M.val qs = M.val ps % M.val ds ∧ Own W B (.slice (some ⟨g, 0, none⟩) L cap) (xs ++ qs ++ us) ∧ w.grownBy W (some g)

set_option maxRecDepth 100000 in
set_option maxHeartbeats 1000000 in
/-- **nat.takeOut** -/
theorem takeOut_any (B g cap L cp cd n : Nat) (xs ps us ds : List Int) (ad : Option Addr) (w : World) (hown : Own w B (.slice (some ⟨g, 0, none⟩) L cap) (xs ++ ps ++ us))
    (hlp : ps.length = n + 2 + 1) (hcp : n + 2 + 1 ≤ cp) (hcp2 : cp ≤ 9223372036854775807) (hd : Row w ad ds cd) (hld : ds.length = n + 2) (hne : ∀ b off, ad = some ⟨b, off, none⟩ → b ≠ g)
    (hlimp : M.Lim ps) (hlimd : M.Lim ds) (htop : 8388608 ≤ M.el ds (n + 1)) (hlt : M.val ps < M.val ds * 16777216) :
    Calls Tryd.prog 81 #[.slice (some ⟨g, xs.length, none⟩) (n + 2 + 1) cp, .slice ad (n + 2) cd] w (ToPost w B g cap L n xs ps us ds) := by
  obtain ⟨g1, g2, g3⟩ := M.guess_int hlp hld hlimp hlimd htop hlt
  have hD0 := M.val_pos_top hld hlimd htop
  have hgs := guess_any _ ad ps ds cp cd n w (hown.midRow (by omega) hcp2) hd hlp hld hlimp hlimd htop
  obtain ⟨q, hq⟩ : ∃ q, min ((M.el ps (n + 2) * 281474976710656 + M.el ps (n + 1) * 16777216 + M.el ps n) / (M.el ds (n + 1) * 16777216 + M.el ds n)) 16777215 = q := ⟨_, rfl⟩
  rw [hq] at g1 g2 g3 hgs
  rw [hlp, hld] at hgs
  have g4 : q ≤ 16777215 := by omega
  have hP0 := M.val_nonneg hlimp
  have HGS := Lib.hid hgs
  have hDl := M.val_lt hlimd
  rw [hld] at hDl
  have htz := hlimp.get (n + 2)
  have HP := Lib.hid (show M.Lim (ps.take (n + 2)) from hlimp.take _)
  have HO := Lib.hid hown
  have HD := Lib.hid hd
  have HNE := Lib.hid hne
  have HLP := Lib.hid hlp
  have HLD := Lib.hid hld
  have HLIMD := Lib.hid hlimd
  clear hgs hq hown hd hne hlp hlimp hlimd hld hlt htop
  go_enter Tryd.func81, Tryd.ntmps81
  go_wp2_with fail
  refine HGS.out.mono ?_
  rintro e w1 ⟨rfl, hb1⟩
  have HO1 := Lib.hid (HO.out.below (hb1))
  have HB1 := Lib.hid hb1
  have HD1 := Lib.hid (HD.out.below hb1)
  have hs1 := hb1.size
  clear hb1
  go_wp2_with fail
  refine (show Calls Tryd.prog 88 _ w1 _ from addTimes_any B g cap L cp cd (n + 2) xs ps us ds ad (-q) w1 HO1.out HLP.out hcp HD1.out HLD.out HNE.out HP.out (by omega) HLIMD.out (by omega)).mono ?_
  rintro e w2 ⟨ts, rfl, hlt, hlimt, hvt, hot, hgt⟩
  have HO2 := Lib.hid hot
  have hs2 := hgt.size
  have HG2 := Lib.hid (grown_trans (grown_any HB1.out) hgt)
  have HD2 := Lib.hid (HD1.out.grown hgt (fun b off e => by intro h; cases h; exact HNE.out _ _ e rfl))
  have HLT := Lib.hid hlt
  have HLIMT := Lib.hid hlimt
  have HVT := Lib.hid hvt
  clear hlt hlimt hvt hot hgt HO HO1 HD1 HB1
  by_cases hc : q = M.val ps / M.val ds
  · obtain ⟨z1, z2, z3⟩ := M.take_zero hD0 hc
    rw [← HVT.out] at z1 z2 z3
    have ez := M.top_zero HLT.out HLIMT.out z1 (Int.lt_trans z2 hDl)
    rw [ez]
    have HEZ := Lib.hid ez
    have HC := Lib.hid hc
    clear ez hc g1 g2
    go_wp2_with fail
    go_ret
    exact ⟨ts, by rw [← HC.out]; rfl, HLT.out, M.lim_of_top HLT.out HLIMT.out HEZ.out, z3, HO2.out, HG2.out⟩
  · have hc1 : q = M.val ps / M.val ds + 1 := by omega
    obtain ⟨z1, z2, z3⟩ := M.take_one hD0 hc1
    rw [← HVT.out] at z1 z2 z3
    have ez := M.top_neg HLT.out HLIMT.out z1 (by omega)
    rw [ez]
    have HEZ := Lib.hid ez
    have HC := Lib.hid hc1
    clear ez hc hc1 g1 g2
    have hq0 : 0 < q := by
      have h1 := HC.out
      have h2 := Int.ediv_nonneg hP0 (Int.le_of_lt hD0)
      omega
    go_wp2_with fail
    refine (show Calls Tryd.prog 88 _ w2 _ from addTimes_any B g cap L cp cd (n + 2) xs ts us ds ad 1 w2 HO2.out HLT.out hcp HD2.out HLD.out HNE.out HLIMT.out (by rw [HEZ.out]; omega) HLIMD.out (by omega)).mono ?_
    rintro e w3 ⟨rs, rfl, hlr, hlimr, hvr, hor, hgr⟩
    have HO3 := Lib.hid hor
    have HG3 := Lib.hid (grown_trans HG2.out hgr)
    have HLR := Lib.hid hlr
    have HLIMR := Lib.hid hlimr
    have HVR := Lib.hid hvr
    clear hlr hlimr hvr hor hgr
    go_wp2_with fail
    go_ret
    have hv : M.val rs = M.val ps % M.val ds := by rw [HVR.out, Int.one_mul, z3]
    have ez := M.top_zero HLR.out HLIMR.out (by rw [hv]; exact Int.emod_nonneg _ (by omega)) (by rw [hv]; exact Int.lt_trans (Int.emod_lt_of_pos _ hD0) hDl)
    exact ⟨rs, (show _ = Ending.returned (Value.int .i64 (q - 1)) from rfl).trans (by rw [HC.out, Int.add_sub_cancel]), HLR.out, M.lim_of_top HLR.out HLIMR.out ez, hv, HO3.out, HG3.out⟩
end Go.Proofs.YtmejneobfkbgeaaDoor

namespace Go.Proofs.YtmejneobfkbgeaaDoor.M

theorem norm_factor (y l : Nat) (h : Lib.bitLen y = l) (h0 : 0 < y) (h1 : y < 16777216) :
    1 ≤ l ∧ l ≤ 24 ∧ 0 < 2 ^ (24 - l) ∧ 2 ^ (24 - l) < 16777216 ∧ 8388608 ≤ y * 2 ^ (24 - l) ∧ (y + 1) * 2 ^ (24 - l) ≤ 16777216 := by
  obtain ⟨b1, b2, b3⟩ := Lib.bitLenAux_bounds 64 y (by omega) (by omega)
  change 1 ≤ Lib.bitLen y at b1
  change 2 ^ (Lib.bitLen y - 1) ≤ y at b2
  change y < 2 ^ Lib.bitLen y at b3
  rw [h] at b1 b2 b3
  have hl : l ≤ 24 := by
    have : l - 1 < 24 := (Nat.pow_lt_pow_iff_right (a := 2) (by decide)).1 (Nat.lt_of_le_of_lt b2 (by omega : y < 2 ^ 24))
    omega
  have e1 : 2 ^ l * 2 ^ (24 - l) = 16777216 := by rw [← Nat.pow_add, show l + (24 - l) = 24 by omega]
  have e2 : 2 ^ (l - 1) * 2 ^ (24 - l) = 8388608 := by rw [← Nat.pow_add, show l - 1 + (24 - l) = 23 by omega]
  refine ⟨b1, hl, Nat.pow_pos (by decide), ?_, ?_, ?_⟩
  · exact Nat.lt_of_le_of_lt (Nat.pow_le_pow_right (by decide) (by omega : 24 - l ≤ 23)) (by decide)
  · rw [← e2]; exact Nat.mul_le_mul_right _ b2
  · rw [← e1]; exact Nat.mul_le_mul_right _ b3

/-- The value of limbs with a given highest one. -/
theorem val_top {ys : List Int} {k : Nat} (hl : ys.length = k + 1) (hy : Lim ys) : el ys k * 16777216 ^ k ≤ val ys ∧ val ys < (el ys k + 1) * 16777216 ^ k := by
  have h1 := val_take_succ ys k (by omega)
  rw [List.take_of_length_le (by omega)] at h1
  have h2 := val_lt (hy.take k)
  have h3 := val_nonneg (hy.take k)
  rw [List.length_take, Nat.min_eq_left (by omega)] at h2
  rw [Int.add_mul, Int.mul_comm (el ys k)]
  omega

/-- Scaled by the factor, the divisor keeps its length and has its highest bit. -/
theorem scaled_divisor {ys ds : List Int} {n F : Nat} (hl : ys.length = n + 2) (hy : Lim ys) (hd : Lim ds) (hv : val ds = val ys * F) (h8 : 8388608 ≤ el ys (n + 1) * F) (h16 : (el ys (n + 1) + 1) * F ≤ 16777216)
    (hlen : ds.length = ys.length ∨ ds.length = ys.length + 1 ∧ 0 < el ds ys.length) : ds.length = n + 2 ∧ 8388608 ≤ el ds (n + 1) := by
  obtain ⟨t1, t2⟩ := val_top (k := n + 1) hl hy
  have hK := pow_pos (n + 1)
  have hF : (0 : Int) ≤ F := by omega
  have u1 : val ds < 16777216 * 16777216 ^ (n + 1) := by
    rcases Nat.eq_zero_or_pos F with rfl | hF0
    · omega
    · have a1 : val ys * F < (el ys (n + 1) + 1) * 16777216 ^ (n + 1) * F := Int.mul_lt_mul_of_pos_right t2 (by omega)
      have a2 : (el ys (n + 1) + 1) * 16777216 ^ (n + 1) * F = (el ys (n + 1) + 1) * F * 16777216 ^ (n + 1) := by rw [Int.mul_right_comm]
      have a3 : (el ys (n + 1) + 1) * F * 16777216 ^ (n + 1) ≤ 16777216 * 16777216 ^ (n + 1) := Int.mul_le_mul_of_nonneg_right h16 (by omega)
      omega
  have u2 : 8388608 * 16777216 ^ (n + 1) ≤ val ds := by
    have a1 : el ys (n + 1) * 16777216 ^ (n + 1) * F ≤ val ys * F := Int.mul_le_mul_of_nonneg_right t1 hF
    have a2 : el ys (n + 1) * 16777216 ^ (n + 1) * F = el ys (n + 1) * F * 16777216 ^ (n + 1) := by rw [Int.mul_right_comm]
    have a3 : 8388608 * 16777216 ^ (n + 1) ≤ el ys (n + 1) * F * 16777216 ^ (n + 1) := Int.mul_le_mul_of_nonneg_right h8 (by omega)
    omega
  have hlen2 : ds.length = n + 2 := by
    rcases hlen with h | ⟨h, h0⟩
    · omega
    · exfalso
      rw [hl] at h h0
      have t3 := (val_top (k := n + 2) h hd).1
      have : 1 * 16777216 ^ (n + 2) ≤ el ds (n + 2) * 16777216 ^ (n + 2) := Int.mul_le_mul_of_nonneg_right (by omega) (Int.le_of_lt (pow_pos _))
      have e : (16777216 : Int) ^ (n + 2) = 16777216 * 16777216 ^ (n + 1) := by rw [Int.pow_succ, Int.mul_comm]
      omega
  refine ⟨hlen2, ?_⟩
  have t4 := (val_top (k := n + 1) hlen2 hd).2
  have : 8388608 * 16777216 ^ (n + 1) < (el ds (n + 1) + 1) * 16777216 ^ (n + 1) := by omega
  have := Int.lt_of_mul_lt_mul_right this (by omega)
  omega

/-- What is left above the first place to be taken: less than the divisor. -/
theorem start_lt {xs ys rs ds : List Int} {n m F : Nat} (hla : xs.length = n + 2 + m) (hlb : ys.length = n + 2) (hx : Lim xs) (hy : Lim ys) (hr : Lim rs) (htop : 0 < el ys (n + 1)) (hF : 0 < F)
    (hvr : val rs = val xs * F) (hvd : val ds = val ys * F) (hlr : m + 1 ≤ rs.length) : val (rs.drop (m + 1)) < val ds := by
  have h1 := val_split rs (m + 1)
  rw [Nat.min_eq_left hlr] at h1
  have h2 := val_nonneg (hr.take (m + 1))
  have h3 := val_lt hx
  rw [hla] at h3
  have h4 := (val_top (k := n + 1) hlb hy).1
  have hK := pow_pos (n + 1)
  have h5 : 1 * 16777216 ^ (n + 1) ≤ el ys (n + 1) * 16777216 ^ (n + 1) := Int.mul_le_mul_of_nonneg_right (by omega) (by omega)
  have e : (16777216 : Int) ^ (n + 2 + m) = 16777216 ^ (m + 1) * 16777216 ^ (n + 1) := by rw [← Int.pow_add]; congr 1; omega
  rw [e] at h3
  have hM := pow_pos (m + 1)
  have h6 : val xs * F < 16777216 ^ (m + 1) * 16777216 ^ (n + 1) * F := Int.mul_lt_mul_of_pos_right h3 (by omega)
  have h7 : (16777216 : Int) ^ (m + 1) * 16777216 ^ (n + 1) * F ≤ 16777216 ^ (m + 1) * val ds := by
    rw [hvd, Int.mul_assoc]
    refine Int.mul_le_mul_of_nonneg_left ?_ (by omega)
    exact Int.mul_le_mul_of_nonneg_right (by omega) (by omega)
  have h8 : 16777216 ^ (m + 1) * val (rs.drop (m + 1)) < 16777216 ^ (m + 1) * val ds := by omega
  exact Int.lt_of_mul_lt_mul_left h8 (by omega)

theorem val_drop_succ (rs : List Int) (k : Nat) (hk : k < rs.length) : val (rs.drop k) = el rs k + 16777216 * val (rs.drop (k + 1)) := by
  rw [drop_el rs k hk, val]

/-- The part from which a place is taken, and the limbs above it. -/
theorem part_lt {rs : List Int} {k n : Nat} {D : Int} (hr : Lim rs) (hk : k + (n + 2 + 1) ≤ rs.length) (hD : D ≤ 16777216 ^ (n + 2)) (h : val (rs.drop (k + 1)) < D) :
    val (rs.drop (k + (n + 2 + 1))) = 0 ∧ val ((rs.drop k).take (n + 2 + 1)) = val (rs.drop k) ∧ val (rs.drop k) < D * 16777216 := by
  have h1 := val_append ((rs.drop (k + 1)).take (n + 2)) ((rs.drop (k + 1)).drop (n + 2))
  rw [List.take_append_drop, List.drop_drop, List.length_take, List.length_drop, Nat.min_eq_left (by omega), show k + 1 + (n + 2) = k + (n + 2 + 1) by omega] at h1
  have h2 := val_nonneg ((hr.drop (k + 1)).take (n + 2))
  have h3 := val_nonneg (hr.drop (k + (n + 2 + 1)))
  have hP := pow_pos (n + 2)
  have h0 : val (rs.drop (k + (n + 2 + 1))) = 0 := by
    rcases Int.lt_or_eq_of_le h3 with h4 | h4
    · have : 16777216 ^ (n + 2) * 1 ≤ (16777216 : Int) ^ (n + 2) * val (rs.drop (k + (n + 2 + 1))) := Int.mul_le_mul_of_nonneg_left (by omega) (by omega)
      omega
    · exact h4.symm
  have h5 := val_append ((rs.drop k).take (n + 2 + 1)) ((rs.drop k).drop (n + 2 + 1))
  rw [List.take_append_drop, List.drop_drop, h0, Int.mul_zero, Int.add_zero] at h5
  have h6 := val_drop_succ rs k (by omega)
  have h7 := hr.get k
  exact ⟨h0, h5.symm, by omega⟩

theorem split3 (rs : List Int) (k n : Nat) : rs.take k ++ (rs.drop k).take n ++ rs.drop (k + n) = rs := by
  rw [List.append_assoc, ← List.drop_drop, List.take_append_drop, List.take_append_drop]

/-- One place of the quotient. -/
theorem long_step {rs qs ts : List Int} {k n : Nat} {D A : Int} (hk : k + (n + 2 + 1) ≤ rs.length) (hq : k < qs.length) (hts : ts.length = n + 2 + 1) (hD : 0 < D)
    (h0 : val (rs.drop (k + (n + 2 + 1))) = 0) (hp : val ((rs.drop k).take (n + 2 + 1)) = val (rs.drop k)) (hv : val ts = val ((rs.drop k).take (n + 2 + 1)) % D)
    (hA : A = val rs + D * 16777216 ^ (k + 1) * val (qs.drop (k + 1))) :
    A = val (rs.take k ++ ts ++ rs.drop (k + (n + 2 + 1))) + D * 16777216 ^ k * val ((qs.set k (val ((rs.drop k).take (n + 2 + 1)) / D)).drop k) ∧
    val ((rs.take k ++ ts ++ rs.drop (k + (n + 2 + 1))).drop k) < D := by
  have lk : (rs.take k).length = k := by rw [List.length_take]; omega
  have e1 : val (rs.take k ++ ts ++ rs.drop (k + (n + 2 + 1))) = val (rs.take k) + 16777216 ^ k * val ts := by
    rw [val_append, val_append, h0, Int.mul_zero, Int.add_zero, lk]
  have e2 := val_split rs k
  rw [Nat.min_eq_left (by omega), ← hp] at e2
  have e3 : val ((rs.take k ++ ts ++ rs.drop (k + (n + 2 + 1))).drop k) = val ts := by
    rw [List.append_assoc, List.drop_left' lk, val_append, h0, Int.mul_zero, Int.add_zero]
  have e4 : val ((qs.set k (val ((rs.drop k).take (n + 2 + 1)) / D)).drop k) = val ((rs.drop k).take (n + 2 + 1)) / D + 16777216 * val (qs.drop (k + 1)) := by
    rw [val_drop_succ _ k (by rw [List.length_set]; exact hq), el_set _ _ _ _ hq, if_pos rfl, List.drop_set_of_lt (by omega)]
  have e5 := Int.mul_ediv_add_emod (val ((rs.drop k).take (n + 2 + 1))) D
  rw [← hv] at e5
  refine ⟨?_, by rw [e3, hv]; exact Int.emod_lt_of_pos _ hD⟩
  rw [hA, e1, e2, e4, Int.pow_succ]
  generalize val ((rs.drop k).take (n + 2 + 1)) / D = q at *
  rw [← e5]
  generalize (16777216 : Int) ^ k = P
  generalize val (qs.drop (k + 1)) = Q
  generalize val ts = T
  generalize val (rs.take k) = U
  clear hA e1 e2 e3 e4 e5 hv hp h0
  grind

theorem long_end {xs ys rs qs : List Int} {F : Nat} (hF : 0 < F) (hr : Lim rs) (hA : val xs * F = val rs + val ys * F * val qs) (hlt : val rs < val ys * F) : val qs = val xs / val ys ∧ val (shr (F : Int) rs).2 = val xs % val ys := by
  have hF2 : (0 : Int) < F := by omega
  have h0 := val_nonneg hr
  have hY : 0 < val ys * F := by omega
  have hy : 0 < val ys := by
    rcases Int.lt_or_le 0 (val ys) with h | h
    · exact h
    · have := Int.mul_nonpos_of_nonpos_of_nonneg h (Int.le_of_lt hF2); omega
  have h1 := (Int.ediv_emod_unique (a := val xs * F) (r := val rs) (q := val qs) hY).2 ⟨by rw [hA], h0, hlt⟩
  have h2 : val xs * F / (val ys * F) = val xs / val ys := Int.mul_ediv_mul_of_pos_left _ _ hF2
  have h3 := shr_val (F : Int) rs
  have h4 := shr_rest (F : Int) hF2 rs
  refine ⟨by rw [← h2]; exact h1.1.symm, ?_⟩
  have h5 := (Int.ediv_emod_unique (a := val rs) (r := (shr (F : Int) rs).1) (q := val (shr (F : Int) rs).2) hF2).2 ⟨by rw [Int.mul_comm]; omega, h4.1, h4.2⟩
  rw [← h5.1, ← h1.2, Int.mul_comm (val xs), Int.mul_comm (val ys), Int.mul_emod_mul_of_pos _ _ hF2, Int.mul_ediv_cancel_left _ (by omega)]
end Go.Proofs.YtmejneobfkbgeaaDoor.M

namespace Go.Proofs.YtmejneobfkbgeaaDoor
open Go Go.RowKit Go.Shelf
attribute [local go_sem] mask24

def SclFull (w : World) (B : Nat) (zs : List Int) (f c0 : Nat) (e : Ending) (W : World) : Prop :=
  ∃ a' cap' ys, e = .returned (.slice a' ys.length cap') ∧ Own W B (.slice a' ys.length cap') ys ∧ Below B w W ∧ M.Lim ys ∧ ys.length ≤ zs.length + 1 ∧ M.val ys = M.val zs * f + c0 ∧ (ys.length = zs.length ∨ ys.length = zs.length + 1 ∧ 0 < M.el ys zs.length)

set_option maxRecDepth 100000 in
set_option maxHeartbeats 1000000 in
/-- **nat.scale**, with the length of what it leaves. -/
theorem scale_full (B : Nat) (a : Option Addr) (cap : Nat) (zs : List Int) (f c0 : Nat) (w : World) (hB : B ≤ w.heap.size) (hf : f < 16777216) (hc0 : c0 < 16777216) (hlim : M.Lim zs) (hlen : zs.length < 100000) (hown : Own w B (.slice a zs.length cap) zs) :
    Calls Tryd.prog 79 #[.slice a zs.length cap, .int .i64 (f : Int), .int .i64 (c0 : Int)] w (SclFull w B zs f c0) := by
  have HL := Lib.hid hlim
  have hm := hown.rowAt.room
  have hm2 := hown.rowAt.most
  have HO0 := Lib.hid hown
  clear hlim hown
  go_enter Tryd.func79, Tryd.ntmps79
  go_wp2
  go_loopw [7, 13] (fun c i wr => SclRel w B a cap zs f c0 c i wr) (fun _ i _ => zs.length - (intOf i).toNat)
  case atStart => exact ⟨0, zs, c0, rfl, rfl, Nat.zero_le _, rfl, HL.out, by omega, by omega, rfl, by simp [M.val], HO0.out, Below.refl _ _⟩
  case round =>
    obtain ⟨k, ys, q, rfl, rfl, hk, hlen2, hlim, hq0, hq1, hdrop, hval, hown, hbW⟩ := hrel
    have HLN := Lib.hid hlen2
    have HD := Lib.hid hdrop
    have HV := Lib.hid hval
    have HLIM := Lib.hid hlim
    have HO := Lib.hid hown
    have HB := Lib.hid hbW
    clear hlen2 hdrop hval hlim hown hbW
    have hbs := HB.out.size
    by_cases hlt : k < zs.length
    · obtain ⟨g, rfl, hgB, hgW, h3, h4, hcz, hfz⟩ := HO.out.at2 k (by rw [HLN.out]; exact hlt)
      have hel := HL.out.get k
      have hez : M.el ys k = M.el zs k := by
        have := congrArg (fun l => M.el l 0) HD.out
        simpa only [M.el_drop, Nat.add_zero] using this
      rw [hez] at hcz
      have HEZ := Lib.hid hez
      clear hez
      have hmb := M.mul_bound hel (b := (f : Int)) (by omega)
      go_wp2
      go_roundw
      case rel =>
        have hkl : k < ys.length := by rw [HLN.out]; exact hlt
        refine ⟨k + 1, ys.set k ((q + M.el zs k * (f : Int)) % 16777216), (q + M.el zs k * (f : Int)) / 16777216, by go_num, rfl, by omega, by rw [List.length_set]; exact HLN.out, HLIM.out.set _ (by omega) (by omega), by omega, by omega, ?_, ?_, ?_, HB.out.setCell (p := ⟨g, k, none⟩) hgB _⟩
        · rw [List.drop_set_of_lt (by omega)]
          have := congrArg (List.drop 1) HD.out
          rwa [List.drop_drop, List.drop_drop] at this
        · rw [M.val_set_succ _ _ _ hkl, M.val_take_succ', Int.pow_succ]
          have h1 := M.pow_split (16777216 ^ k) (q + M.el zs k * (f : Int))
          have h2 := HV.out
          rw [Int.mul_add, ← Int.mul_assoc] at h1
          rw [Int.add_mul]
          omega
        · have := HO.out
          rw [← HLN.out] at this ⊢
          exact this.set k _
      case measure => simp [intOf]; omega
    · have hk' : k = zs.length := by omega
      have hv := HV.out
      rw [List.take_of_length_le (by rw [HLN.out]; omega), List.take_of_length_le (by omega), hk'] at hv
      have HV2 := Lib.hid hv
      have HK := Lib.hid hk'
      clear hv hk'
      by_cases hq : 0 < q
      · go_wp2_with (at_builtin; refine wpList_app1 rfl _ _ rfl rfl (HO.out.alloc _) rfl (cell_new _ _ _) (by rw [HLN.out]; omega) (by simp; omega) ?_; intro a' cap' W' hown' hb')
        go_ret
        refine ⟨a', cap', ys ++ [q], by rw [List.length_append, HLN.out]; rfl, hown', HB.out.trans (((Below.refl B wr).alloc (by omega) _).trans hb'), HLIM.out.append (M.Lim.cons hq0 hq1 M.Lim.nil), by simp [HLN.out], ?_⟩
        constructor
        · rw [M.val_append, HLN.out]
          simpa [M.val] using HV2.out
        · refine .inr ⟨by simp [HLN.out], ?_⟩
          rw [M.el_append_right (by rw [HLN.out]; omega), HLN.out, Nat.sub_self]
          exact hq
      · have hq2 : q = 0 := by omega
        have hv := HV2.out
        rw [hq2] at hv
        have HV3 := Lib.hid hv
        clear hv hq2
        go_wp2
        go_ret
        exact ⟨a, cap, ys, by rw [HLN.out]; rfl, by rw [HLN.out]; exact HO.out, HB.out, HLIM.out, by rw [HLN.out]; omega, by simpa using HV3.out, .inl HLN.out⟩
end Go.Proofs.YtmejneobfkbgeaaDoor

namespace Go.Proofs.YtmejneobfkbgeaaDoor
open Go

/-- No operation of the region defers a call. -/
def noDefer (ops : Array Oper) : Bool := ops.all fun o => match o.op with | .defer _ => false | _ => true
theorem noDefer_at {ops : Array Oper} (h : noDefer ops = true) {i : Nat} {o : Oper} (ho : ops[i]? = some o) : ∀ c, o.op ≠ .defer c := by
  intro c e
  have h1 := Array.all_eq_true_iff_forall_mem.1 h o (Array.mem_of_getElem? ho)
  simp [e] at h1

theorem oper_round {P : Program} {n l : Nat} {o : Oper} {a : Act} {w : World} {K : Act → World → Prop} {Q : Exit → Act → World → Prop} (hd : ∀ c, o.op ≠ .defer c) (h : o.wp P a w K Q) :
    o.wpIn (Fence.wide.inRound l) n P a w K Q := by
  unfold Oper.wp at h
  unfold Oper.wpIn
  refine ⟨fun f _ => trivial, ?_⟩
  rw [Oper.semAt_eq _ _ _ hd]
  generalize (execOp a.eval o).run P w = r at *
  cases r with
  | ok x w' =>
    cases x with
    | value v => exact h
    | skip => exact h
    | defer d => exact h
    | enter f args => exact ⟨(fun h => (by cases h)), callsIn_wide.2 h⟩
    | row row args =>
      refine ⟨(fun h => (by cases h)), fun c cs _ => ?_⟩
      obtain ⟨v, w', r, s⟩ := h c cs
      exact ⟨v, w', r, stepsIn_wide.2 s⟩
    | _ => exact absurd h (by simp [Oper.upon])
  | halt x w' => cases x <;> first | exact h | exact absurd h (by simp [Oper.upon])

theorem wpOp_round {P : Program} {n l : Nat} {ops : Array Oper} {Q : Exit → Act → World → Prop} (hd : noDefer ops = true) (hout : ¬ LetsOut Q) {i : Nat} {K : Act → World → Prop} {a : Act} {w : World} (h : wpOp P ops Q i K a w) :
    wpOpIn (Fence.wide.inRound l) n P ops Q i K a w := by
  unfold wpOp at h
  unfold wpOpIn
  cases ho : ops[i]? with
  | none => rw [ho] at h; exact h
  | some o =>
    rw [ho] at h
    simp only at h ⊢
    by_cases hw : Region.wanted o (yielded ops a.tmps) = true
    · rw [if_pos hw] at h ⊢
      rcases h with h | ⟨_, h⟩
      · exact oper_round (noDefer_at hd ho) h
      · exact absurd h hout
    · rw [if_neg hw] at h ⊢
      exact ⟨fun f _ => trivial, h⟩

theorem wpAny_round {P : Program} {n l : Nat} {md : Region.Mode} {ops : Array Oper} {Q : Exit → Act → World → Prop} (hd : noDefer ops = true) (hout : ¬ LetsOut Q) :
    ∀ (fuel : Nat) (listed : Array Bool) (a : Act) (w : World), wpAny P md ops Q fuel listed a w → wpAnyIn (Fence.wide.inRound l) n P md ops Q fuel listed a w
  | 0, _, _, _, h => h
  | fuel + 1, _, _, _, h => ⟨h.1, fun i hi => wpOpIn_mono (fun a' w' h' => wpAny_round hd hout fuel _ a' w' h') (wpOp_round hd hout (h.2 i hi))⟩

/-- A region in a round, by the plain walk's law. -/
theorem wpIn_region_round {P : Program} {n l id : Nat} {ops : Array Oper} {Q : Exit → Act → World → Prop} {a : Act} {w : World} (hm : P.follows .mixedOrders = true) (hd : noDefer ops = true) (hout : ¬ LetsOut Q)
    (h : wpAny P .any ops Q ops.size (Array.replicate ops.size false) a w.drew) : (Code.region id ops true).wpIn (Fence.wide.inRound l) n P Q a w :=
  wpIn_region_any hm (wpAny_round hd hout _ _ _ _ h)

/-- .. and with cells that the operations read held. -/
theorem wpIn_region_held {P : Program} {n l id : Nat} {ops : Array Oper} {Q : Exit → Act → World → Prop} {S : World → Prop} {a : Act} {w : World} (hm : P.follows .mixedOrders = true) (hd : noDefer ops = true) (hout : ¬ LetsOut Q) (hS : S w.drew)
    (h : S w.drew → wpAnyH P .any ops Q S ops.size (Array.replicate ops.size false) a w.drew) : (Code.region id ops true).wpIn (Fence.wide.inRound l) n P Q a w :=
  wpIn_region_round hm hd hout (wpAny_of_held _ _ _ _ (h hS))

/-- An operation that is taken first, its slot named: so the state behind it can be laid out anew. -/
theorem wpAnyH_at {P : Program} {md : Region.Mode} {ops : Array Oper} {Q : Exit → Act → World → Prop} {S : World → Prop} (i : Nat) (d : Option Tmp) {oi : Oper} {v : Value} {fuel : Nat} {listed : Array Bool} {a : Act} {w : World} (hi : ops[i]? = some oi) (hd : oi.dst = d)
    (hs : Region.noSelect ops = true) (hf : Region.free md ops listed i = true) (hr : (Region.ready md ops listed).contains i = true)
    (hQ : ∀ c a w, Q (.panic c) (a.put d v) w → Q (.panic c) a w) (hy : YieldsIf P ops S oi v a) (hS : S w)
    (h : wpAnyH P md ops Q S fuel (listed.setIfInBounds i true) (a.put d v) w) : wpAnyH P md ops Q S (fuel + 1) listed a w := by
  subst hd
  exact wpAnyH_take hi hs hf hr hQ hy hS h
end Go.Proofs.YtmejneobfkbgeaaDoor

namespace Go.Proofs.YtmejneobfkbgeaaDoor
open Go Go.RowKit Go.Shelf
attribute [local go_sem] Oper.semAt_some

/-- What is read at a lies in memory made from block B on. -/
def Fresh (B : Nat) (a : Option Addr) (zs : List Int) : Prop := ∀ b off, a = some ⟨b, off, none⟩ → 0 < zs.length → B ≤ b
theorem Own.fresh {W : World} {B n cap : Nat} {a : Option Addr} {zs : List Int} (h : Own W B (.slice a n cap) zs) : Fresh B a zs := by
  intro b off e hl
  obtain ⟨g, e2, hB, _⟩ := h.at2 0 hl
  rw [e] at e2
  cases e2
  exact hB
theorem Row.setFresh {W : World} {B cap : Nat} {a : Option Addr} {zs : List Int} (h : Row W a zs cap) (hf : Fresh B a zs) {p : Addr} (hp : p.block < B) (v : Value) : Row (W.setCell p v) a zs cap :=
  ⟨h.room, h.most, fun j hj => by
    obtain ⟨b, off, e, hc⟩ := h.el j hj
    have hb := hf b off e (by omega)
    exact ⟨b, off, e, (cell_other v (show b ≠ p.block by omega)).trans hc⟩⟩

def LongPost (w : World) (xs ys : List Int) (e : Ending) (W : World) : Prop :=
  ∃ a1 c1 qs a2 c2 rs, e = .returned (.tuple #[.slice a1 qs.length c1, .slice a2 rs.length c2]) ∧ Row W a1 qs c1 ∧ Row W a2 rs c2 ∧ M.Lim qs ∧ M.Lim rs ∧
    M.val qs = M.val xs / M.val ys ∧ M.val rs = M.val xs % M.val ys ∧ Fresh w.heap.size a1 qs ∧ Fresh w.heap.size a2 rs ∧ Below w.heap.size w W

theorem cell_below {w W : World} {p : Addr} {v : Value} (hb : Below w.heap.size w W) (h : w.cell? p = some v) : W.cell? p = some v := (hb.cell (lt_of_cell h)).trans h
theorem frozen_below {w W : World} {p : Addr} {v : Value} {t : Bool} (hb : Below w.heap.size w W) (h : w.cell? p = some v) (hf : w.frozen? p = t) : W.frozen? p = t := (hb.frozen (lt_of_cell h)).trans hf

theorem Own.belowAt {W W' : World} {B B0 g L cap : Nat} {zs : List Int} (h : Own W B (.slice (some ⟨g, 0, none⟩) L cap) zs) (hg : g < B0) (hb : Below B0 W W') : Own W' B (.slice (some ⟨g, 0, none⟩) L cap) zs := by
  refine ⟨h.1, ?_⟩
  rcases h.2 with hn | ⟨g', cap', cur, hv, hB, hgg, rest⟩
  · exact .inl hn
  · refine .inr ⟨g', cap', cur, hv, hB, ?_, rest⟩
    cases hv
    rw [hb.block _ hg]
    exact hgg
theorem Own.grownAt {W W' : World} {B g r L cap : Nat} {zs : List Int} (h : Own W B (.slice (some ⟨g, 0, none⟩) L cap) zs) (hg : W.grownBy W' (some r)) (hne : g ≠ r) : Own W' B (.slice (some ⟨g, 0, none⟩) L cap) zs :=
  World.ownsRow.kept h hg (.inr (by intro e; cases e; exact hne rfl))
theorem cell_grown {W W' : World} {r : Nat} {a : Addr} {v : Value} (hg : W.grownBy W' (some r)) (hne : a.block ≠ r) (h : W.cell? a = some v) : W'.cell? a = some v :=
  (World.cell?_of_block (hg.block a.block (lt_of_cell h) (by intro e; cases e; exact hne rfl))).trans h
theorem frozen_grown {W W' : World} {r : Nat} {a : Addr} {v : Value} {t : Bool} (hg : W.grownBy W' (some r)) (hne : a.block ≠ r) (h : W.cell? a = some v) (hf : W.frozen? a = t) : W'.frozen? a = t :=
  (World.frozen?_of_block (hg.block a.block (lt_of_cell h) (by intro e; cases e; exact hne rfl))).trans hf

/-- What holds in divideLong's loop when k places are still to come. -/
def LongI (w : World) (p7 gq gr gd bb bo n m L pr pd cb bs : Nat) (ds : List Int) (A : Int) (k : Nat) (W : World) : Prop :=
  ((W.cell? ⟨w.heap.size + 1, 0, none⟩ = some (.slice (some ⟨gq, 0, none⟩) (m + 1) (m + 1)) ∧ W.cell? ⟨w.heap.size + 1 + 1, 0, none⟩ = some (.slice (some ⟨gr, 0, none⟩) L pr) ∧
    W.cell? ⟨w.heap.size, 0, none⟩ = some (.slice (some ⟨bb, bo, none⟩) (n + 2) cb) ∧ W.cell? ⟨p7, 0, none⟩ = some (.slice (some ⟨gd, 0, none⟩) (n + 2) pd)) ∧
    W.frozen? ⟨w.heap.size + 1, 0, none⟩ = false ∧ W.frozen? ⟨w.heap.size + 1 + 1, 0, none⟩ = false ∧ W.cell? ⟨bs, 0, none⟩ = some (.slice (some ⟨gq, 0, none⟩) (m + 1) (m + 1))) ∧
  ∃ qs rs, Own W w.heap.size (.slice (some ⟨gq, 0, none⟩) (m + 1) (m + 1)) qs ∧ Own W w.heap.size (.slice (some ⟨gr, 0, none⟩) L pr) rs ∧ Own W w.heap.size (.slice (some ⟨gd, 0, none⟩) (n + 2) pd) ds ∧ M.Lim qs ∧ M.Lim rs ∧
    qs.length = m + 1 ∧ rs.length = L ∧ (∀ j : Nat, j < k → M.el qs j = 0) ∧ A = M.val rs + M.val ds * 16777216 ^ k * M.val (qs.drop k) ∧ M.val (rs.drop k) < M.val ds ∧ Below w.heap.size w W

theorem longI_own {w : World} {p7 gq gr gd bb bo n m L pr pd cb bs : Nat} {ds : List Int} {A : Int} {B0 : Nat} (hB0 : w.heap.size ≤ B0) : OwnFrom B0 (LongI w p7 gq gr gd bb bo n m L pr pd cb bs ds A) := by
  refine OwnFrom.and (Own.from (fun _ _ _ _ hs hg hr => ⟨⟨cell_kept hs.1.1 hg hr, cell_kept hs.1.2.1 hg hr, cell_kept hs.1.2.2.1 hg hr, cell_kept hs.1.2.2.2 hg hr⟩, (frozen_kept hs.1.1 hg hr).trans hs.2.1, (frozen_kept hs.1.2.1 hg hr).trans hs.2.2.1, cell_kept hs.2.2.2 hg hr⟩) _) ?_
  rintro s W W' row ⟨qs, rs, h1, h2, h3, h4⟩ hg hr
  refine ⟨qs, rs, ownFrom_own (B0 := B0) (fun (_ : Unit) => qs) () _ _ _ h1 hg hr, ownFrom_own (B0 := B0) (fun (_ : Unit) => rs) () _ _ _ h2 hg hr, ownFrom_own (B0 := B0) (fun (_ : Unit) => ds) () _ _ _ h3 hg hr, h4.1, h4.2.1, h4.2.2.1, h4.2.2.2.1, h4.2.2.2.2.1, h4.2.2.2.2.2.1, h4.2.2.2.2.2.2.1, ?_⟩
  exact ownFrom_below (β := Unit) (Nat.le_refl _) hB0 () _ _ _ h4.2.2.2.2.2.2.2 hg hr

set_option maxRecDepth 100000 in
set_option maxHeartbeats 1000000 in
theorem divideLong_any (a b : Option Addr) (ca cb : Nat) (xs ys : List Int) (n m : Nat) (w : World) (hla : xs.length = n + 2 + m) (hlb : ys.length = n + 2) (hx : M.Lim xs) (hy : M.Lim ys) (htop : 0 < M.el ys (n + 1))
    (hsz : n + 2 + m < 10000) (hA : Row w a xs ca) (hB : Row w b ys cb) :
    Calls Tryd.prog 71 #[.slice a (n + 2 + m) ca, .slice b (n + 2) cb] w (LongPost w xs ys) := by
  have hB3 : Below w.heap.size w (((w.alloc (.cells #[.slice b (n + 2) cb] 22)).alloc (.cells #[.slice none 0 0] 22)).alloc (.cells #[.slice none 0 0] 22)) := (((Below.refl _ w).alloc (Nat.le_refl _) _).alloc (by simp) _).alloc (by simp; omega) _
  obtain ⟨bb, bo, rfl, hc0⟩ := hB.el (n + 1) (by omega)
  have hel := hy.get (n + 1)
  obtain ⟨t, ht⟩ : ∃ t, M.el ys (n + 1) = t := ⟨_, rfl⟩
  rw [ht] at hc0 hel htop
  obtain ⟨T, rfl⟩ := Int.eq_ofNat_of_zero_le hel.1
  obtain ⟨l, hl⟩ : ∃ l, Lib.bitLen T = l := ⟨_, rfl⟩
  obtain ⟨k1, k2, k3, k4, k5, k6⟩ := M.norm_factor T l hl (by omega) (by omega)
  have hbl := fun W : World => bitsLen_any (T : Int) W (by omega) (by omega)
  rw [Int.toNat_natCast, hl] at hbl
  obtain ⟨F, hF⟩ : ∃ F : Nat, 2 ^ (24 - l) = F := ⟨_, rfl⟩
  rw [hF] at k3 k4 k5 k6
  have c1 := (hB3.cell (p := ⟨bb, bo + (n + 1), none⟩) (lt_of_cell hc0)).trans hc0
  have HBL := Lib.hid hbl
  have HF := Lib.hid hF
  have hrb := hB.room
  have hmb := hB.most
  rw [hlb] at hrb
  have hra := hA.room
  have hma := hA.most
  rw [hla] at hra
  have HB3 := Lib.hid hB3
  have HA := Lib.hid hA
  have HB := Lib.hid hB
  have HX := Lib.hid hx
  have HY := Lib.hid hy
  have HT := Lib.hid ht
  have HLA := Lib.hid hla
  have HLB := Lib.hid hlb
  clear hB3 hA hB hx hy ht hla hlb hc0 hbl hF hl
  refine (callsIn_wide (n := 6)).1 ?_
  refine callsIn_of_wp_marks Tryd.func71 rfl trivial ?_ rfl
  refine wpIn_wide.2 ?_
  simp only [Tryd.ntmps71, List.size_toArray, List.length_cons, List.length_nil, Nat.reduceAdd, Nat.reduceSub, Array.replicate_succ, Array.replicate_zero, List.push_toArray, List.append_toArray, List.nil_append, List.cons_append]
  go_wp2_with fail
  refine (HBL.out _).mono ?_
  rintro e w' ⟨rfl, rfl⟩
  go_wp2_with fail
  have hw64 : wrap64 ((2 : Int) ^ (24 - l)) = (F : Int) := by
    have h1 := HF.out
    have h2 : ((2 ^ (24 - l) : Nat) : Int) = (2 : Int) ^ (24 - l) := by rw [Int.natCast_pow]; rfl
    rw [← h2, h1]; unfold wrap64; omega
  rw [hw64]
  clear hw64 c1
  have d0 := cell_new w (.slice (some ⟨bb, bo, none⟩) (n + 2) cb) 22
  have d1 := cell_new (w.alloc (.cells #[.slice (some ⟨bb, bo, none⟩) (n + 2) cb] 22)) (.slice none 0 0) 22
  have f1 := frozen_new (w.alloc (.cells #[.slice (some ⟨bb, bo, none⟩) (n + 2) cb] 22)) (.slice none 0 0) 22
  have d2 := cell_new ((w.alloc (.cells #[.slice (some ⟨bb, bo, none⟩) (n + 2) cb] 22)).alloc (.cells #[.slice none 0 0] 22)) (.slice none 0 0) 22
  have f2 := frozen_new ((w.alloc (.cells #[.slice (some ⟨bb, bo, none⟩) (n + 2) cb] 22)).alloc (.cells #[.slice none 0 0] 22)) (.slice none 0 0) 22
  simp only [World.size_alloc] at d1 f1 d2 f2
  have HC3 := Lib.hid (And.intro (cell_later (.cells #[.slice none 0 0] 22) (cell_later (.cells #[.slice none 0 0] 22) d0)) (And.intro (cell_later (.cells #[.slice none 0 0] 22) d1) (And.intro (frozen_later (.cells #[.slice none 0 0] 22) d1 f1) (And.intro d2 f2))))
  clear d0 d1 f1 d2 f2
  have HB' := Lib.hid (HB.out.below HB3.out)
  have HA' := Lib.hid (HA.out.below HB3.out)
  have hs3 : (((w.alloc (.cells #[.slice (some ⟨bb, bo, none⟩) (n + 2) cb] 22)).alloc (.cells #[.slice none 0 0] 22)).alloc (.cells #[.slice none 0 0] 22)).heap.size = w.heap.size + 3 := by simp
  generalize (((w.alloc (.cells #[.slice (some ⟨bb, bo, none⟩) (n + 2) cb] 22)).alloc (.cells #[.slice none 0 0] 22)).alloc (.cells #[.slice none 0 0] 22)) = w3 at *
  clear HB HA
  have hcl := clone_any _ ys cb w3 HB'.out (by rw [HLB.out]; omega) (by rw [HLB.out]; omega)
  rw [HLB.out] at hcl
  refine hcl.mono ?_
  clear hcl
  rintro e w4 ⟨a4, p4, rfl, ho4, hb4⟩
  have hsc := scale_full w3.heap.size a4 p4 ys F 0 w4 hb4.size k4 (by omega) HY.out (by rw [HLB.out]; omega) (by rw [HLB.out]; exact ho4)
  rw [HLB.out] at hsc
  have HSC := Lib.hid hsc
  have HB4 := Lib.hid hb4
  clear hsc hb4 ho4
  go_wp2_with fail
  refine HSC.out.mono ?_
  rintro e w5 ⟨a5, p5, ds, rfl, ho5, hb5, hlimd, _, hvd, hld⟩
  have hvd2 : M.val ds = M.val ys * (F : Int) := by rw [hvd]; simp
  obtain ⟨hld, htopd⟩ := M.scaled_divisor (F := F) HLB.out HY.out hlimd hvd2 (by rw [HT.out, ← Int.natCast_mul]; omega) (by rw [HT.out, show ((T : Int) + 1) = ((T + 1 : Nat) : Int) from rfl, ← Int.natCast_mul]; omega) hld
  rw [hld] at ho5 ⊢
  obtain ⟨gd, rfl, hgd1, hgd2, _⟩ := ho5.at2 0 (by omega)
  have HLD := Lib.hid hld
  have HVD := Lib.hid hvd2
  have HLIMD := Lib.hid hlimd
  have hb35 := HB4.out.trans (hb5.mono (Nat.le_refl _))
  have HB5 := Lib.hid hb35
  have hs5 := hb35.size
  have HC5 := Lib.hid (And.intro (cell_below hb35 HC3.out.1) (And.intro (cell_below hb35 HC3.out.2.1) (And.intro (frozen_below hb35 HC3.out.2.1 HC3.out.2.2.1) (And.intro (cell_below hb35 HC3.out.2.2.2.1) (frozen_below hb35 HC3.out.2.2.2.1 HC3.out.2.2.2.2)))))
  have HA5 := Lib.hid (HA'.out.below hb35)
  have HO5 := Lib.hid ho5
  clear hld hvd hvd2 hlimd hb35 hb5 ho5 HC3 HB4 HSC HA'
  go_wp2_with fail
  have d7 := cell_new w5 (.slice (some ⟨gd, 0, none⟩) (n + 2) p5) 22
  have hb56 := (Below.refl w5.heap.size w5).alloc (Nat.le_refl _) (.cells #[.slice (some ⟨gd, 0, none⟩) (n + 2) p5] 22)
  have HC6 := Lib.hid (And.intro d7 (And.intro (cell_below hb56 HC5.out.1) (And.intro (cell_below hb56 HC5.out.2.1) (And.intro (frozen_below hb56 HC5.out.2.1 HC5.out.2.2.1) (And.intro (cell_below hb56 HC5.out.2.2.2.1) (frozen_below hb56 HC5.out.2.2.2.1 HC5.out.2.2.2.2))))))
  have HA6 := Lib.hid (HA5.out.below hb56)
  have HO6 := Lib.hid (HO5.out.below hb56)
  have HB6 := Lib.hid (HB5.out.trans (hb56.mono (by omega)))
  have hs6 : (w5.alloc (.cells #[.slice (some ⟨gd, 0, none⟩) (n + 2) p5] 22)).heap.size = w5.heap.size + 1 := by simp
  clear d7 hb56 HC5 HA5 HO5 HB5
  generalize w5.alloc (.cells #[.slice (some ⟨gd, 0, none⟩) (n + 2) p5] 22) = w6 at *
  have hcl := clone_any _ xs ca w6 HA6.out (by rw [HLA.out]; omega) (by rw [HLA.out]; omega)
  rw [HLA.out] at hcl
  refine hcl.mono ?_
  clear hcl
  rintro e w7 ⟨a7, p7, rfl, ho7, hb7⟩
  have hsc := scale_full w6.heap.size a7 p7 xs F 0 w7 hb7.size k4 (by omega) HX.out (by rw [HLA.out]; omega) (by rw [HLA.out]; exact ho7)
  rw [HLA.out] at hsc
  have HSC := Lib.hid hsc
  have HB7 := Lib.hid hb7
  clear hsc hb7 ho7
  go_wp2_with fail
  refine HSC.out.mono ?_
  rintro e w8 ⟨a8, p8, rs, rfl, ho8, hb8, hlimr, hlr, hvr, hlr2⟩
  have hvr2 : M.val rs = M.val xs * (F : Int) := by rw [hvr]; simp
  have hb68 := HB7.out.trans (hb8.mono (Nat.le_refl _))
  have hs8 := hb68.size
  have hlr3 : n + 2 + m ≤ rs.length ∧ rs.length ≤ n + 2 + m + 1 := by have := HLA.out; omega
  have HC8 := Lib.hid (And.intro (cell_below hb68 HC6.out.1) (And.intro (cell_below hb68 HC6.out.2.1) (And.intro (cell_below hb68 HC6.out.2.2.1) (And.intro (frozen_below hb68 HC6.out.2.2.1 HC6.out.2.2.2.1) (And.intro (cell_below hb68 HC6.out.2.2.2.2.1) (frozen_below hb68 HC6.out.2.2.2.2.1 HC6.out.2.2.2.2.2))))))
  have HO8 := Lib.hid ho8
  have HD8 := Lib.hid (HO6.out.below hb68)
  have HB8 := Lib.hid hb68
  have HVR := Lib.hid hvr2
  have HLIMR := Lib.hid hlimr
  clear hvr hvr2 hlimr hlr hlr2 hb68 hb8 ho8 HC6 HO6 HB7 HSC HA6
  have g3 := HC8.out.2.2.2.2.1
  have gf3 := HC8.out.2.2.2.2.2
  have l3 : w.heap.size + 1 + 1 < w6.heap.size := by omega
  go_wp2_with (first
    | (at_builtin; refine wpList_app1 rfl _ _ rfl rfl (HO8.out.alloc _) rfl (cell_new _ _ _) (by omega) (by simp; omega) ?_; intro a9 p9 w9 hown9 hb9; have e9 := (hb9.cell (p := ⟨w.heap.size + 1 + 1, 0, none⟩) l3).trans (cell_later (.cells #[.int .i64 0] 3) g3); have ef9 := (hb9.frozen (p := ⟨w.heap.size + 1 + 1, 0, none⟩) l3).trans (frozen_later (.cells #[.int .i64 0] 3) g3 gf3);
        have c9 := (hb9.cell (p := ⟨w.heap.size, 0, none⟩) (by show w.heap.size < _; omega)).trans (cell_later (.cells #[.int .i64 0] 3) HC8.out.2.1); have c92 := (hb9.cell (p := ⟨w.heap.size + 1, 0, none⟩) (by show w.heap.size + 1 < _; omega)).trans (cell_later (.cells #[.int .i64 0] 3) HC8.out.2.2.1); have cf92 := (hb9.frozen (p := ⟨w.heap.size + 1, 0, none⟩) (by show w.heap.size + 1 < _; omega)).trans (frozen_later (.cells #[.int .i64 0] 3) HC8.out.2.2.1 HC8.out.2.2.2.1); have HO9 := Lib.hid hown9; have HB9 := Lib.hid hb9; clear hown9 hb9)
    | (at_make; refine wpList_make1 rfl _ _ rfl (m + 1) rfl rfl (by omega) (by omega) (B := w9.heap.size) (by simp [World.setCell]) ?_; intro w10 hown10 hb10; have HO10 := Lib.hid hown10; have HB10 := Lib.hid hb10; clear hown10 hb10;
        have e10 := cell_below ((HB10.out.mono (by simp [World.setCell]))) ((cell_other (W := w9) (p := ⟨w.heap.size + 1 + 1, 0, none⟩) (a := ⟨w.heap.size + 1, 0, none⟩) (.slice a9 (rs.length + 1) p9) (by simp)).trans c92); have ef10 := frozen_below ((HB10.out.mono (by simp [World.setCell]))) ((cell_other (W := w9) (p := ⟨w.heap.size + 1 + 1, 0, none⟩) (a := ⟨w.heap.size + 1, 0, none⟩) (.slice a9 (rs.length + 1) p9) (by simp)).trans c92) ((World.frozen?_setCell _ _ _ _).trans cf92)))
  refine (backward_any _ _ _ _).mono ?_
  rintro e w' ⟨rfl, rfl⟩
  have hb10 := HB10.out
  have hs9 := HB9.out.size
  have hs10 := hb10.size
  have hsz9 : (w9.setCell ⟨w.heap.size + 1 + 1, 0, none⟩ (.slice a9 (rs.length + 1) p9)).heap.size = w9.heap.size := by simp [World.setCell]
  have hsz10 : (w10.setCell ⟨w.heap.size + 1, 0, none⟩ (.slice (some ⟨w9.heap.size, 0, none⟩) (m + 1) (m + 1))).heap.size = w10.heap.size := by simp [World.setCell]
  rw [World.size_alloc] at hs9
  rw [hsz9] at hs10
  have hbb : Below (w9.setCell ⟨w.heap.size + 1 + 1, 0, none⟩ (.slice a9 (rs.length + 1) p9)).heap.size (w9.setCell ⟨w.heap.size + 1 + 1, 0, none⟩ (.slice a9 (rs.length + 1) p9)) w10 := by rw [hsz9]; exact hb10
  have q5 := World.cell?_setCell_same' w9 ⟨w.heap.size + 1 + 1, 0, none⟩ (.slice a9 (rs.length + 1) p9) (by rw [e9]; rfl)
  have r5 := cell_below hbb q5
  have r5f := frozen_below hbb q5 ((World.frozen?_setCell _ _ _ _).trans ef9)
  have r3 := cell_below hbb ((cell_other (W := w9) (p := ⟨w.heap.size + 1 + 1, 0, none⟩) (a := ⟨w.heap.size, 0, none⟩) (.slice a9 (rs.length + 1) p9) (by simp; omega)).trans c9)
  have c97 := (HB9.out.cell (p := ⟨w5.heap.size, 0, none⟩) (by show w5.heap.size < _; omega)).trans (cell_later (.cells #[.int .i64 0] 3) HC8.out.1)
  have r7 := cell_below hbb ((cell_other (W := w9) (p := ⟨w.heap.size + 1 + 1, 0, none⟩) (a := ⟨w5.heap.size, 0, none⟩) (.slice a9 (rs.length + 1) p9) (by show w5.heap.size ≠ w.heap.size + 1 + 1; omega)).trans c97)
  obtain ⟨gr, rfl, hgr1, hgr2, _⟩ := HO9.out.at2 0 (by simp)
  have hlen9 : (rs ++ [0]).length = rs.length + 1 := by simp
  have hO9 := HO9.out
  rw [hlen9] at hO9
  have hR := ((hO9.other (p := ⟨w.heap.size + 1 + 1, 0, none⟩) (.slice (some ⟨gr, 0, none⟩) (rs.length + 1) p9) (by simp [Value.ownBlock]; omega)).below hbb).mono (B' := w.heap.size) (by omega)
  have hR' := (hR.other (p := ⟨w.heap.size + 1, 0, none⟩) (.slice (some ⟨w9.heap.size, 0, none⟩) (m + 1) (m + 1)) (by simp [Value.ownBlock]; omega)).alloc (.cells #[.slice (some ⟨w9.heap.size, 0, none⟩) (m + 1) (m + 1)] 22)
  have hb89 : Below w8.heap.size w8 (w8.alloc (.cells #[.int .i64 0] 3)) := (Below.refl _ _).alloc (Nat.le_refl _) _
  have hD9 := (((HD8.out.below hb89).belowAt (B0 := w6.heap.size) (by omega) HB9.out).other (p := ⟨w.heap.size + 1 + 1, 0, none⟩) (.slice (some ⟨gr, 0, none⟩) (rs.length + 1) p9) (by simp [Value.ownBlock]; omega)).below hbb
  have hD' := ((hD9.mono (B' := w.heap.size) (by omega)).other (p := ⟨w.heap.size + 1, 0, none⟩) (.slice (some ⟨w9.heap.size, 0, none⟩) (m + 1) (m + 1)) (by simp [Value.ownBlock]; omega)).alloc (.cells #[.slice (some ⟨w9.heap.size, 0, none⟩) (m + 1) (m + 1)] 22)
  have hQ := HO10.out
  rw [hsz9, List.length_replicate] at hQ
  have hQ' := ((hQ.mono (B' := w.heap.size) (by omega)).other (p := ⟨w.heap.size + 1, 0, none⟩) (.slice (some ⟨w9.heap.size, 0, none⟩) (m + 1) (m + 1)) (by simp [Value.ownBlock]; omega)).alloc (.cells #[.slice (some ⟨w9.heap.size, 0, none⟩) (m + 1) (m + 1)] 22)
  have hb3 := HB3.out
  have hb0 : Below w.heap.size w (w8.alloc (.cells #[.int .i64 0] 3)) := ((hb3.trans (HB6.out.mono (by omega))).trans (HB8.out.mono (by omega))).alloc (by omega) _
  have hb1 : Below w.heap.size w w10 := (((hb0.trans (HB9.out.mono (by omega))).setCell (p := ⟨w.heap.size + 1 + 1, 0, none⟩) (by simp; omega) _).trans (hbb.mono (by omega)))
  have hb2 := (hb1.setCell (p := ⟨w.heap.size + 1, 0, none⟩) (by simp) (.slice (some ⟨w9.heap.size, 0, none⟩) (m + 1) (m + 1))).alloc (by rw [hsz10]; omega) (.cells #[.slice (some ⟨w9.heap.size, 0, none⟩) (m + 1) (m + 1)] 22)
  have s4 := World.cell?_setCell_same' w10 ⟨w.heap.size + 1, 0, none⟩ (.slice (some ⟨w9.heap.size, 0, none⟩) (m + 1) (m + 1)) (by rw [e10]; rfl)
  have s5 := (cell_other (W := w10) (p := ⟨w.heap.size + 1, 0, none⟩) (a := ⟨w.heap.size + 1 + 1, 0, none⟩) (.slice (some ⟨w9.heap.size, 0, none⟩) (m + 1) (m + 1)) (by simp)).trans r5
  have s3 := (cell_other (W := w10) (p := ⟨w.heap.size + 1, 0, none⟩) (a := ⟨w.heap.size, 0, none⟩) (.slice (some ⟨w9.heap.size, 0, none⟩) (m + 1) (m + 1)) (by simp)).trans r3
  have s7 := (cell_other (W := w10) (p := ⟨w.heap.size + 1, 0, none⟩) (a := ⟨w5.heap.size, 0, none⟩) (.slice (some ⟨w9.heap.size, 0, none⟩) (m + 1) (m + 1)) (by show w5.heap.size ≠ w.heap.size + 1; omega)).trans r7
  have sb := cell_new (w10.setCell ⟨w.heap.size + 1, 0, none⟩ (.slice (some ⟨w9.heap.size, 0, none⟩) (m + 1) (m + 1))) (.slice (some ⟨w9.heap.size, 0, none⟩) (m + 1) (m + 1)) 22
  have hD0 : 0 < M.val ds := M.val_pos_top HLD.out HLIMD.out htopd
  have hstart : M.val ((rs ++ [0]).drop (m + 1)) < M.val ds := M.start_lt HLA.out HLB.out HX.out HY.out (HLIMR.out.append (M.Lim.cons (by omega) (by omega) M.Lim.nil)) (by rw [HT.out]; exact htop) k3 (by rw [M.val_append]; simp [M.val]; exact HVR.out) HVD.out (by simp; omega)
  have HI0 : Hid (LongI w w5.heap.size w9.heap.size gr gd bb bo n m (rs.length + 1) p9 p5 cb (w10.setCell ⟨w.heap.size + 1, 0, none⟩ (.slice (some ⟨w9.heap.size, 0, none⟩) (m + 1) (m + 1))).heap.size ds (M.val xs * F) (m + 1) ((w10.setCell ⟨w.heap.size + 1, 0, none⟩ (.slice (some ⟨w9.heap.size, 0, none⟩) (m + 1) (m + 1))).alloc (.cells #[.slice (some ⟨w9.heap.size, 0, none⟩) (m + 1) (m + 1)] 22))) :=
    ⟨⟨⟨cell_later _ s4, cell_later _ s5, cell_later _ s3, cell_later _ s7⟩, frozen_later _ s4 ((World.frozen?_setCell _ _ _ _).trans ef10), frozen_later _ s5 ((World.frozen?_setCell _ _ _ _).trans r5f), sb⟩,
      _, _, hQ', hR', hD', M.Lim.replicate _, HLIMR.out.append (M.Lim.cons (by omega) (by omega) M.Lim.nil), by simp, by simp, fun j _ => M.el_replicate _ _, by
        rw [List.drop_of_length_le (by simp), M.val_append]; simp [M.val]; exact HVR.out.symm, hstart, hb2⟩
  have hbs : (w10.setCell ⟨w.heap.size + 1, 0, none⟩ (.slice (some ⟨w9.heap.size, 0, none⟩) (m + 1) (m + 1))).heap.size = w10.heap.size := hsz10
  rw [hbs] at HI0
  have hwsz : w.heap.size ≤ ((w10.setCell ⟨w.heap.size + 1, 0, none⟩ (.slice (some ⟨w9.heap.size, 0, none⟩) (m + 1) (m + 1))).alloc (.cells #[.slice (some ⟨w9.heap.size, 0, none⟩) (m + 1) (m + 1)] 22)).heap.size := hb2.size
  have hL : n + 2 + m + 1 ≤ rs.length + 1 := by omega
  have hL2 : rs.length + 1 < 20000 := by omega
  obtain ⟨A, hA⟩ : ∃ A, M.val xs * F = A := ⟨_, rfl⟩
  rw [hA] at HI0
  have HAF := Lib.hid hA
  have z1 : gr < ((w10.setCell ⟨w.heap.size + 1, 0, none⟩ (.slice (some ⟨w9.heap.size, 0, none⟩) (m + 1) (m + 1))).alloc (.cells #[.slice (some ⟨w9.heap.size, 0, none⟩) (m + 1) (m + 1)] 22)).heap.size := by rw [World.size_alloc, hsz10]; omega
  have z2 : w.heap.size ≤ w9.heap.size := by omega
  have z3 : w.heap.size ≤ gr := by omega
  have x1 : gr ≠ w.heap.size + 1 := by omega
  have x2 : gr ≠ w.heap.size + 1 + 1 := by omega
  have x3 : gr ≠ w.heap.size := by omega
  have x4 : gr ≠ w5.heap.size := by omega
  have x5 : gr ≠ w10.heap.size := by omega
  have x6 : gd ≠ gr := by omega
  have x7 : w9.heap.size ≠ gr := by omega
  have x8 : w9.heap.size ≠ w.heap.size + 1 := by omega
  have x9 : w9.heap.size ≠ w.heap.size + 1 + 1 := by omega
  have y3 : w9.heap.size ≠ w.heap.size := by omega
  have y4 : w9.heap.size ≠ w5.heap.size := by omega
  have y5 : w9.heap.size ≠ w10.heap.size := by have := hQ.at2 0 (by simp); obtain ⟨g', e, _, h, _⟩ := this; cases e; omega
  have y6 : gd ≠ w9.heap.size := by omega
  have y7 : gr ≠ w9.heap.size := by omega
  clear hA hb2 hb1 hb0 hb3 s4 s5 s3 s7 sb hstart hQ hQ' hD' hD9 hb89 hR hR' hO9 hlen9 r3 r5 r7 r5f c97 q5 hbb hb10 e9 ef9 c9 c92 cf92 e10 ef10 HO9 HB9 HO10 HB10 g3 gf3 l3 HC8 HO8 HD8 HB8 HVR HLIMR hs9 hs10 hsz9 hsz10 HB6 HB3 HB' HBL hs3 hs5 hs6 hs8 hbs hgr1 hgr2 hgd1 hgd2
  generalize ((w10.setCell ⟨w.heap.size + 1, 0, none⟩ (.slice (some ⟨w9.heap.size, 0, none⟩) (m + 1) (m + 1))).alloc (.cells #[.slice (some ⟨w9.heap.size, 0, none⟩) (m + 1) (m + 1)] 22)) = W11 at *
  generalize w9.heap.size = gq at *
  generalize w5.heap.size = q7 at *
  generalize rs.length = L0 at *
  go_wp2_with fail
  generalize w10.heap.size = bs at *
  refine wpIn_wide.1 (wpIn_back (n := 6) (by omega) (Bs := bs) rfl rfl (some ⟨gq, 0, none⟩) (m + 1) (m + 1) (by omega) (fun _ => 0) (LongI w q7 gq gr gd bb bo n m (L0 + 1) p9 p5 cb bs ds A) (fun _ _ _ => False) (longI_own hwsz) (fun _ _ _ _ _ hs _ _ => hs) HI0.out (fun k W h => h.1.2.2.2) ?read ?act ?assign ?body ?done ?stop)
  case read =>
    rintro k W ⟨_, qs, _, hq, _, _, _, _, hql, _, hz, _⟩ hk
    obtain ⟨g, e, _, _, _, _, hc, _⟩ := hq.at2 k (by rw [hql]; exact hk)
    rw [hz k (Nat.lt_succ_self k)] at hc
    exact ⟨g, 0, e, by simpa using hc⟩
  case assign =>
    intro l k W K hk hK
    gi_wp2
    exact hK
  case body =>
    rintro l k W hl hrec ⟨⟨⟨h4, h5, h3, h7⟩, f4, f5, hbx⟩, qs, rs, hq, hr, hd, hlq, hlr, hqn, hrn, hz, hA, hlt, hB⟩ hk
    clear hl hrec HI0
    have hKD := M.val_lt HLIMD.out
    rw [HLD.out] at hKD
    obtain ⟨p0, pp, plt⟩ := M.part_lt (k := k) (n := n) hlr (by omega) (Int.le_of_lt hKD) hlt
    have hmx : Tryd.prog.follows .mixedOrders = true := by kernel_rfl
    have hrm := (show Own W w.heap.size (.slice (some ⟨gr, 0, none⟩) rs.length p9) rs by rw [hrn]; exact hr).rowAt
    have hrm1 := hrm.room
    have hrm2 := hrm.most
    obtain ⟨u, hu⟩ : ∃ u : Nat, u = k + (n + 2) := ⟨_, rfl⟩
    obtain ⟨v, hv⟩ : ∃ v : Nat, v = u + 1 := ⟨_, rfl⟩
    have hw1 : IntKind.i64.wrap ((k : Int) + ((n : Int) + 2)) = (u : Int) := by rw [IntKind.wrap_i64]; omega
    have hw2 : IntKind.i64.wrap ((u : Int) + 1) = (v : Int) := by rw [IntKind.wrap_i64]; omega
    have hv1 : (k : Int) ≤ (v : Int) := by omega
    have hv2 : (v : Int) ≤ (p9 : Int) := by omega
    have hv3 : (0 : Int) ≤ (k : Int) := by omega
    have HU := Lib.hid hu
    have HV := Lib.hid hv
    have HRN := Lib.hid hrn
    have HQN := Lib.hid hqn
    have HA := Lib.hid hA
    have HP0 := Lib.hid p0
    have HPP := Lib.hid pp
    clear hrm hu hv hrn hqn hA p0 pp
    refine wpIn_block ?_
    refine wpIn_region_held (S := fun W' => W'.cell? ⟨w.heap.size + 1, 0, none⟩ = some (.slice (some ⟨gq, 0, none⟩) (m + 1) (m + 1)) ∧ W'.cell? ⟨w.heap.size + 1 + 1, 0, none⟩ = some (.slice (some ⟨gr, 0, none⟩) (L0 + 1) p9) ∧
      W'.cell? ⟨w.heap.size, 0, none⟩ = some (.slice (some ⟨bb, bo, none⟩) (n + 2) cb) ∧ W'.cell? ⟨q7, 0, none⟩ = some (.slice (some ⟨gd, 0, none⟩) (n + 2) p5)) hmx (by kernel_rfl) (by rintro ⟨_, _, h⟩; exact h) ⟨h4, h5, h3, h7⟩ (fun hHeld => ?_)
    refine wpAnyH_at 0 (some 40) (v := ?_) rfl rfl (by kernel_rfl) (by kernel_rfl) (by kernel_rfl) (fun _ _ _ h => h) (Or.inl ⟨by rfl, ?_⟩) hHeld ?_
    rotate_left
    · (intro W2 hSw; obtain ⟨j4, j5, j3, j7⟩ := hSw; go_simp; try with_reducible rfl)
    simp only [Act.put, List.setIfInBounds_toArray, List.set_cons_zero, List.set_cons_succ]
    refine wpAnyH_at 1 (some 41) (v := ?_) rfl rfl (by kernel_rfl) (by kernel_rfl) (by kernel_rfl) (fun _ _ _ h => h) (Or.inl ⟨by rfl, ?_⟩) hHeld ?_
    rotate_left
    · (intro W2 hSw; obtain ⟨j4, j5, j3, j7⟩ := hSw; go_simp; try with_reducible rfl)
    simp only [Act.put, List.setIfInBounds_toArray, List.set_cons_zero, List.set_cons_succ]
    refine wpAnyH_at 2 (some 42) (v := ?_) rfl rfl (by kernel_rfl) (by kernel_rfl) (by kernel_rfl) (fun _ _ _ h => h) (Or.inl ⟨by rfl, ?_⟩) hHeld ?_
    rotate_left
    · (intro W2 hSw; obtain ⟨j4, j5, j3, j7⟩ := hSw; go_simp; try with_reducible rfl)
    simp only [Act.put, List.setIfInBounds_toArray, List.set_cons_zero, List.set_cons_succ]
    refine wpAnyH_at 3 (some 43) (v := ?_) rfl rfl (by kernel_rfl) (by kernel_rfl) (by kernel_rfl) (fun _ _ _ h => h) (Or.inl ⟨by rfl, ?_⟩) hHeld ?_
    rotate_left
    · (intro W2 hSw; obtain ⟨j4, j5, j3, j7⟩ := hSw; go_simp; try with_reducible rfl)
    simp only [Act.put, List.setIfInBounds_toArray, List.set_cons_zero, List.set_cons_succ]
    refine wpAnyH_at 4 (some 44) (v := ?_) rfl rfl (by kernel_rfl) (by kernel_rfl) (by kernel_rfl) (fun _ _ _ h => h) (Or.inl ⟨by rfl, ?_⟩) hHeld ?_
    rotate_left
    · (intro W2 hSw; obtain ⟨j4, j5, j3, j7⟩ := hSw; go_simp; try with_reducible rfl)
    simp only [Act.put, List.setIfInBounds_toArray, List.set_cons_zero, List.set_cons_succ]
    refine wpAnyH_at 5 (some 45) (v := ?_) rfl rfl (by kernel_rfl) (by kernel_rfl) (by kernel_rfl) (fun _ _ _ h => h) (Or.inl ⟨by rfl, ?_⟩) hHeld ?_
    rotate_left
    · (intro W2 hSw; obtain ⟨j4, j5, j3, j7⟩ := hSw; go_simp; try with_reducible rfl)
    simp only [Act.put, List.setIfInBounds_toArray, List.set_cons_zero, List.set_cons_succ]
    refine wpAnyH_at 6 (some 46) (v := ?_) rfl rfl (by kernel_rfl) (by kernel_rfl) (by kernel_rfl) (fun _ _ _ h => h) (Or.inl ⟨by rfl, ?_⟩) hHeld ?_
    rotate_left
    · (intro W2 hSw; obtain ⟨j4, j5, j3, j7⟩ := hSw; go_simp; try with_reducible rfl)
    simp only [Act.put, List.setIfInBounds_toArray, List.set_cons_zero, List.set_cons_succ]
    refine wpAnyH_at 7 (some 47) (v := ?_) rfl rfl (by kernel_rfl) (by kernel_rfl) (by kernel_rfl) (fun _ _ _ h => h) (Or.inl ⟨by rfl, ?_⟩) hHeld ?_
    rotate_left
    · (intro W2 hSw; obtain ⟨j4, j5, j3, j7⟩ := hSw; go_simp; try with_reducible rfl)
    simp only [Act.put, List.setIfInBounds_toArray, List.set_cons_zero, List.set_cons_succ]
    refine wpAnyH_at 8 (some 48) (v := ?_) rfl rfl (by kernel_rfl) (by kernel_rfl) (by kernel_rfl) (fun _ _ _ h => h) (Or.inl ⟨by rfl, ?_⟩) hHeld ?_
    rotate_left
    · (intro W2 hSw; obtain ⟨j4, j5, j3, j7⟩ := hSw; go_simp; try with_reducible rfl)
    simp only [Act.put, List.setIfInBounds_toArray, List.set_cons_zero, List.set_cons_succ]
    refine wpAnyH_at 9 (some 49) (v := ?_) rfl rfl (by kernel_rfl) (by kernel_rfl) (by kernel_rfl) (fun _ _ _ h => h) (Or.inl ⟨by rfl, ?_⟩) hHeld ?_
    rotate_left
    · (intro W2 hSw; obtain ⟨j4, j5, j3, j7⟩ := hSw; go_simp; try with_reducible rfl)
    simp only [Act.put, List.setIfInBounds_toArray, List.set_cons_zero, List.set_cons_succ]
    refine wpAnyH_at 10 (some 50) (v := ?_) rfl rfl (by kernel_rfl) (by kernel_rfl) (by kernel_rfl) (fun _ _ _ h => h) (Or.inl ⟨by rfl, ?_⟩) hHeld ?_
    rotate_left
    · (intro W2 hSw; obtain ⟨j4, j5, j3, j7⟩ := hSw; go_simp; try with_reducible rfl)
    simp only [Act.put, List.setIfInBounds_toArray, List.set_cons_zero, List.set_cons_succ]
    refine wpAnyH_ready (rs := [11]) (by kernel_rfl) (by simp) ?_
    refine AllReadyH.cons rfl (fun K hK => ?_) AllReadyH.nil
    go_simp
    rw [if_neg (show ¬ p9 = k by have := HU.out; have := HV.out; omega), show v - k = n + 2 + 1 by have := HU.out; have := HV.out; omega]
    have hkr : k + (n + 2 + 1) ≤ rs.length := by rw [HRN.out]; omega
    have lk : (rs.take k).length = k := by rw [List.length_take]; omega
    have lp : ((rs.drop k).take (n + 2 + 1)).length = n + 2 + 1 := by rw [List.length_take, List.length_drop]; omega
    have hdr := (show Own W w.heap.size (.slice (some ⟨gd, 0, none⟩) ds.length p5) ds by rw [HLD.out]; exact hd).rowAt
    have ht := takeOut_any w.heap.size gr p9 (L0 + 1) (p9 - k) p5 n (rs.take k) ((rs.drop k).take (n + 2 + 1)) (rs.drop (k + (n + 2 + 1))) ds (some ⟨gd, 0, none⟩) W.drew (by rw [M.split3]; exact hr) lp (by have := HRN.out; omega) (by omega)
      ⟨hdr.room, hdr.most, hdr.el⟩ HLD.out (by intro b off e; cases e; exact x6) ((hlr.drop k).take _) HLIMD.out htopd (by rw [HPP.out]; exact plt)
    rw [lk] at ht
    refine ht.mono ?_
    clear ht
    rintro e W2 ⟨ts, rfl, hts, hlt2, hvt, ho2, hg2⟩
    have hg2' : W.grownBy W2 (some gr) := ⟨hg2.os, hg2.tape, hg2.output, hg2.size, hg2.block⟩
    have g4 := cell_grown hg2' (show (w.heap.size + 1 : Nat) ≠ gr from x1.symm) h4
    have g5 := cell_grown hg2' (show (w.heap.size + 1 + 1 : Nat) ≠ gr from x2.symm) h5
    have g3 := cell_grown hg2' (show (w.heap.size : Nat) ≠ gr from x3.symm) h3
    have g7 := cell_grown hg2' (show (q7 : Nat) ≠ gr from x4.symm) h7
    have gf4 := frozen_grown hg2' (show (w.heap.size + 1 : Nat) ≠ gr from x1.symm) h4 f4
    have gf5 := frozen_grown hg2' (show (w.heap.size + 1 + 1 : Nat) ≠ gr from x2.symm) h5 f5
    have gbx := cell_grown hg2' (show (bs : Nat) ≠ gr from x5.symm) hbx
    have hq2 := hq.grownAt hg2' x7
    have hd2 := hd.grownAt hg2' x6
    obtain ⟨_, e', _, _, _, _, ck, fk⟩ := hq2.at2 k (by rw [HQN.out]; exact hk)
    cases e'
    obtain ⟨st1, st2⟩ := M.long_step hkr (by rw [HQN.out]; exact hk) hts hD0 HP0.out HPP.out hvt HA.out
    have hkeep : KeepsFrom W11.heap.size W W2 := KeepsFrom.of_grownBy hg2' (fun j e => by cases e; exact z1)
    have hqd : 0 ≤ M.val ((rs.drop k).take (n + 2 + 1)) / M.val ds ∧ M.val ((rs.drop k).take (n + 2 + 1)) / M.val ds < 16777216 := by
      rw [HPP.out]
      exact ⟨Int.ediv_nonneg (M.val_nonneg (hlr.drop k)) (Int.le_of_lt hD0), Int.ediv_lt_of_lt_mul hD0 (by rw [Int.mul_comm]; exact plt)⟩
    obtain ⟨qk, hqk⟩ : ∃ qk, M.val ((rs.drop k).take (n + 2 + 1)) / M.val ds = qk := ⟨_, rfl⟩
    rw [hqk] at st1 hqd ⊢
    have HST := Lib.hid (And.intro st1 st2)
    have HHK := Lib.hid hkeep
    have hkm : (k : Int) < (m : Int) + 1 := by omega
    clear hHeld hqk st1 st2 hkeep h4 h5 h3 h7 f4 f5 hbx hq hd hg2 hr hvt
    refine hK.out _ _ ⟨g4, g5, g3, g7⟩ (fun hHeld => ?_)
    try simp only [Act.put, List.setIfInBounds_toArray, List.set_cons_zero, List.set_cons_succ]
    refine wpAnyH_at 12 (some 52) (v := ?_) rfl rfl (by kernel_rfl) (by kernel_rfl) (by kernel_rfl) (fun _ _ _ h => h) (Or.inl ⟨by rfl, ?_⟩) hHeld ?_
    rotate_left
    · (intro W2 hSw; obtain ⟨j4, j5, j3, j7⟩ := hSw; go_simp; try with_reducible rfl)
    simp only [Act.put, List.setIfInBounds_toArray, List.set_cons_zero, List.set_cons_succ]
    refine wpAnyH_ready (rs := [13]) (by kernel_rfl) (by simp) ?_
    refine AllReadyH.cons rfl (fun K hK => ?_) AllReadyH.nil
    go_simp
    have hqs : Own (W2.setCell ⟨gq, k, none⟩ (.int .i64 qk)) w.heap.size (.slice (some ⟨gq, 0, none⟩) (m + 1) (m + 1)) (qs.set k qk) := by
      have := (show Own W2 w.heap.size (.slice (some ⟨gq, 0, none⟩) qs.length (m + 1)) qs by rw [HQN.out]; exact hq2).set k qk
      rw [HQN.out] at this
      exact this
    have hkql : k < qs.length := by rw [HQN.out]; exact hk
    refine hK.out _ _ ⟨(cell_other _ (show (w.heap.size + 1 : Nat) ≠ gq from x8.symm)).trans g4, (cell_other _ (show (w.heap.size + 1 + 1 : Nat) ≠ gq from x9.symm)).trans g5, (cell_other _ (show (w.heap.size : Nat) ≠ gq from y3.symm)).trans g3, (cell_other _ (show (q7 : Nat) ≠ gq from y4.symm)).trans g7⟩ (fun _ => wpAnyH_done (by kernel_rfl) ?_ _)
    refine ⟨HHK.out.trans ((KeepsOthers.setCell _ _ _).from _), ⟨⟨(cell_other _ (show (w.heap.size + 1 : Nat) ≠ gq from x8.symm)).trans g4, (cell_other _ (show (w.heap.size + 1 + 1 : Nat) ≠ gq from x9.symm)).trans g5, (cell_other _ (show (w.heap.size : Nat) ≠ gq from y3.symm)).trans g3, (cell_other _ (show (q7 : Nat) ≠ gq from y4.symm)).trans g7⟩,
      (World.frozen?_setCell _ _ _ _).trans gf4, (World.frozen?_setCell _ _ _ _).trans gf5, (cell_other _ (show (bs : Nat) ≠ gq from y5.symm)).trans gbx⟩, qs.set k qk, rs.take k ++ ts ++ rs.drop (k + (n + 2 + 1)), hqs, ho2.other _ (by simp [Value.ownBlock]; exact y7), hd2.other _ (by simp [Value.ownBlock]; exact y6), hlq.set _ hqd.1 hqd.2, ((hlr.take k).append hlt2).append (hlr.drop _), by rw [List.length_set]; exact HQN.out,
      by have := HRN.out; simp only [List.length_append, List.length_drop, lk, hts]; omega, fun j hj => by rw [M.el_set _ _ _ _ hkql, if_neg (by omega)]; exact hz j (by omega), HST.out.1, HST.out.2, ?_⟩
    exact (hB.trans ((Below.refl w.heap.size W).grown hg2' hB.size (fun j e => by cases e; exact z3))).setCell (p := ⟨gq, k, none⟩) z2 _
  case done =>
    rintro D W hD ⟨⟨⟨h4, h5, _, _⟩, f4, f5, _⟩, qs, rs, hq, hr, _, hlq, hlr, hqn, hrn, _, hA, hlt, hB⟩ hK
    rw [Int.pow_zero, Int.mul_one, List.drop_zero] at hA
    rw [List.drop_zero] at hlt
    rw [← HAF.out, HVD.out] at hA
    rw [HVD.out] at hlt
    have HE := Lib.hid (M.long_end k3 hlr hA hlt)
    have hsh := shrink_any w.heap.size (some ⟨gr, 0, none⟩) p9 rs F W k3 (by omega) hlr (by rw [hrn]; exact hr)
    rw [hrn] at hsh
    have HSH := Lib.hid hsh
    have HQN := Lib.hid hqn
    have HRN := Lib.hid hrn
    have HQ := Lib.hid hq
    have HB := Lib.hid hB
    have HKD := Lib.hid hK
    clear hA hlt hsh hqn hrn hq hr hB hK HI0
    go_wp2_with fail
    refine HSH.out.mono ?_
    rintro e W2 ⟨rfl, ho2, hg2⟩
    have g4 := cell_grown hg2 (show (w.heap.size + 1 : Nat) ≠ gr from x1.symm) h4
    have g5 := cell_grown hg2 (show (w.heap.size + 1 + 1 : Nat) ≠ gr from x2.symm) h5
    have gf4 := frozen_grown hg2 (show (w.heap.size + 1 : Nat) ≠ gr from x1.symm) h4 f4
    have gf5 := frozen_grown hg2 (show (w.heap.size + 1 + 1 : Nat) ≠ gr from x2.symm) h5 f5
    have hq2 := HQ.out.grownAt hg2 x7
    have hK2 : W2.heap[D]? = some (.deferred (some [])) := (hg2.block D (Array.getElem?_eq_some_iff.1 HKD.out).1 (by intro e; have h1 : D = gr := Option.some.inj e; have h2 : W11.heap.size ≤ D := hD; omega)).trans HKD.out
    have hB2 := HB.out.trans ((Below.refl w.heap.size W).grown hg2 HB.out.size (fun j e => by cases e; exact z3))
    have HQ2 := Lib.hid hq2
    have HO2 := Lib.hid ho2
    have HK2 := Lib.hid hK2
    have HB2 := Lib.hid hB2
    clear hq2 ho2 hK2 hB2 hg2 h4 h5 f4 f5
    go_wp2_with fail
    go_region
    go_wp2_with fail
    have hKa := (((KeepsOthers.setCell W2 ⟨w.heap.size + 1, 0, none⟩ (.slice (some ⟨gq, 0, none⟩) (m + 1) (m + 1))).trans (KeepsOthers.setCell _ ⟨w.heap.size + 1 + 1, 0, none⟩ (.slice (some ⟨gr, 0, none⟩) (L0 + 1) p9))).trans (KeepsOthers.drew _)).same D _ HK2.out rfl
    refine ⟨by simp, .inl ⟨_, _, rfl, run_takeDeferred hKa, ?_⟩⟩
    have u4 := World.cell?_setCell_same' W2 ⟨w.heap.size + 1, 0, none⟩ (.slice (some ⟨gq, 0, none⟩) (m + 1) (m + 1)) (by rw [g4]; rfl)
    have u5 := World.cell?_setCell_same' (W2.setCell ⟨w.heap.size + 1, 0, none⟩ (.slice (some ⟨gq, 0, none⟩) (m + 1) (m + 1))) ⟨w.heap.size + 1 + 1, 0, none⟩ (.slice (some ⟨gr, 0, none⟩) (L0 + 1) p9) (by rw [cell_other _ (by simp), g5]; rfl)
    have u4' := (cell_other (W := W2.setCell ⟨w.heap.size + 1, 0, none⟩ (.slice (some ⟨gq, 0, none⟩) (m + 1) (m + 1))) (p := ⟨w.heap.size + 1 + 1, 0, none⟩) (a := ⟨w.heap.size + 1, 0, none⟩) (.slice (some ⟨gr, 0, none⟩) (L0 + 1) p9) (by simp)).trans u4
    have hq3 := (HQ2.out.other (p := ⟨w.heap.size + 1, 0, none⟩) (.slice (some ⟨gq, 0, none⟩) (m + 1) (m + 1)) (by simp [Value.ownBlock]; exact x8)).other (p := ⟨w.heap.size + 1 + 1, 0, none⟩) (.slice (some ⟨gr, 0, none⟩) (L0 + 1) p9) (by simp [Value.ownBlock]; exact x9)
    have hr3 := (HO2.out.other (p := ⟨w.heap.size + 1, 0, none⟩) (.slice (some ⟨gq, 0, none⟩) (m + 1) (m + 1)) (by simp [Value.ownBlock]; exact x1)).other (p := ⟨w.heap.size + 1 + 1, 0, none⟩) (.slice (some ⟨gr, 0, none⟩) (L0 + 1) p9) (by simp [Value.ownBlock]; exact x2)
    have hB3 := belowN ((HB2.out.setCell (p := ⟨w.heap.size + 1, 0, none⟩) (by simp) (.slice (some ⟨gq, 0, none⟩) (m + 1) (m + 1))).setCell (p := ⟨w.heap.size + 1 + 1, 0, none⟩) (by simp; omega) (.slice (some ⟨gr, 0, none⟩) (L0 + 1) p9)) 1
    have u4d : ((W2.setCell ⟨w.heap.size + 1, 0, none⟩ (.slice (some ⟨gq, 0, none⟩) (m + 1) (m + 1))).setCell ⟨w.heap.size + 1 + 1, 0, none⟩ (.slice (some ⟨gr, 0, none⟩) (L0 + 1) p9)).drew.cell? ⟨w.heap.size + 1, 0, none⟩ = some (.slice (some ⟨gq, 0, none⟩) (m + 1) (m + 1)) := u4'
    have u5d : ((W2.setCell ⟨w.heap.size + 1, 0, none⟩ (.slice (some ⟨gq, 0, none⟩) (m + 1) (m + 1))).setCell ⟨w.heap.size + 1 + 1, 0, none⟩ (.slice (some ⟨gr, 0, none⟩) (L0 + 1) p9)).drew.cell? ⟨w.heap.size + 1 + 1, 0, none⟩ = some (.slice (some ⟨gr, 0, none⟩) (L0 + 1) p9) := u5
    have hq4 : Own ((W2.setCell ⟨w.heap.size + 1, 0, none⟩ (.slice (some ⟨gq, 0, none⟩) (m + 1) (m + 1))).setCell ⟨w.heap.size + 1 + 1, 0, none⟩ (.slice (some ⟨gr, 0, none⟩) (L0 + 1) p9)).drew w.heap.size (.slice (some ⟨gq, 0, none⟩) (m + 1) (m + 1)) qs := hq3
    have hr4 : Own ((W2.setCell ⟨w.heap.size + 1, 0, none⟩ (.slice (some ⟨gq, 0, none⟩) (m + 1) (m + 1))).setCell ⟨w.heap.size + 1 + 1, 0, none⟩ (.slice (some ⟨gr, 0, none⟩) (L0 + 1) p9)).drew w.heap.size (.slice (some ⟨gr, 0, none⟩) (L0 + 1) p9) (M.shr (F : Int) rs).2 := hr3
    have hB4 : Below w.heap.size w ((W2.setCell ⟨w.heap.size + 1, 0, none⟩ (.slice (some ⟨gq, 0, none⟩) (m + 1) (m + 1))).setCell ⟨w.heap.size + 1 + 1, 0, none⟩ (.slice (some ⟨gr, 0, none⟩) (L0 + 1) p9)).drew := hB3
    clear hq3 hr3 hB3 u4 u5 u4' g4 g5 gf4 gf5 HQ2 HO2 HK2 HB2
    generalize ((W2.setCell ⟨w.heap.size + 1, 0, none⟩ (.slice (some ⟨gq, 0, none⟩) (m + 1) (m + 1))).setCell ⟨w.heap.size + 1 + 1, 0, none⟩ (.slice (some ⟨gr, 0, none⟩) (L0 + 1) p9)).drew = W3 at *
    have v4 := cell_kept u4d (grownBy_putObj' _ D (.deferred none)) (fun r e => by cases e; exact ⟨_, hKa, rfl⟩)
    have v5 := cell_kept u5d (grownBy_putObj' _ D (.deferred none)) (fun r e => by cases e; exact ⟨_, hKa, rfl⟩)
    have hq5 := ownFrom_own (B0 := 0) (fun (_ : Unit) => qs) () _ _ _ hq4 (grownBy_putObj' _ D (.deferred none)) (fun r e => by cases e; exact ⟨Nat.zero_le _, _, hKa, rfl⟩)
    have hr5 := ownFrom_own (B0 := 0) (fun (_ : Unit) => (M.shr (F : Int) rs).2) () _ _ _ hr4 (grownBy_putObj' _ D (.deferred none)) (fun r e => by cases e; exact ⟨Nat.zero_le _, _, hKa, rfl⟩)
    have hsl : (M.shr (F : Int) rs).2.length = L0 + 1 := by rw [M.shr_len, HRN.out]
    refine ⟨.tuple #[.slice (some ⟨gq, 0, none⟩) (m + 1) (m + 1), .slice (some ⟨gr, 0, none⟩) (L0 + 1) p9], ?_, some ⟨gq, 0, none⟩, m + 1, qs, some ⟨gr, 0, none⟩, p9, (M.shr (F : Int) rs).2, ?_, ?_, ?_, hlq, M.shr_lim _ (by omega) hlr, HE.out.1, HE.out.2, hq5.fresh, hr5.fresh, ?_⟩
    · simp [results, Tryd.f71, go_sem, v4, v5]
    · rw [HQN.out, hsl]
    · exact (show Own _ w.heap.size (.slice (some ⟨gq, 0, none⟩) qs.length (m + 1)) qs by rw [HQN.out]; exact hq5).rowAt
    · exact (show Own _ w.heap.size (.slice (some ⟨gr, 0, none⟩) (M.shr (F : Int) rs).2.length p9) (M.shr (F : Int) rs).2 by rw [hsl]; exact hr5).rowAt
    · exact hB4.trans (belowK_b (w := w) (Nat.le_refl _) W3 D _ _ (by have h2 : W11.heap.size ≤ D := hD; omega) hKa rfl rfl)
  case stop =>
    rintro D c k W _ _ h _
    exact h.elim
end Go.Proofs.YtmejneobfkbgeaaDoor

namespace Go.Proofs.YtmejneobfkbgeaaDoor
open Go Go.RowKit Go.Shelf

theorem wpList_appNone {W : World} {ops : Array Oper} {rest : List Oper} {o : Oper} {a : Act} {Q : Exit → Act → World → Prop} (hgd : o.guard = none) (s x : Operand)
    (ho : o.op = .call { callee := .builtin .append, args := #[s, x], argTypes := #[22, 22] }) {B : Nat} {v : Value} (hs : a.eval s = v) (hown : Own W B v [])
    {ad : Addr} {cap : Nat} (hx : a.eval x = .slice (some ad) 0 cap) (hbase : B ≤ W.heap.size)
    (h : ∀ a' cap' W', Own W' B (.slice a' 0 cap') [] → Below B W W' → wpList Tryd.prog ops Q rest (a.put o.dst (.slice a' 0 cap')) W') : wpList Tryd.prog ops Q (o :: rest) a W := by
  obtain ⟨i0, hi, hz0, hz1, hz2⟩ := info_parts info_int
  refine wpList_append_own W hgd s x 22 ho B 3 i0 (.int .i64 0) 1 8 Tryd.underlying22 hi hz0 hz1 hz2 rfl (by decide) v 0 [] hs hown ad 0 cap [] hx (by simp) (fun j u hj => by simp at hj) (fun u hu => by cases hu) (by unfold maxLen; simp) (by simp) hbase ?_
  intro v' W' hown' hgrow _
  have ho2 : Own W' B v' [] := hown'
  have hB2 : Below B W W' := (Below.refl B W).grown hgrow hbase (fun k e => (World.ownsRow.lt hown k e).1)
  obtain ⟨a', cap', rfl, _⟩ := ho2.row
  exact h a' cap' W' ho2 hB2

set_option maxRecDepth 100000 in
set_option maxHeartbeats 1000000 in
/-- **slices.Clone** of any slice of ints. -/
theorem clone_row (a : Option Addr) (zs : List Int) (cap : Nat) (w : World) (hR : Row w a zs cap) (hl : zs.length < 100000) :
    Calls Tryd.prog 40 #[.slice a zs.length cap] w fun e W' => ∃ a' cap', e = .returned (.slice a' zs.length cap') ∧ Own W' w.heap.size (.slice a' zs.length cap') zs ∧ Below w.heap.size w W' := by
  by_cases h0 : 0 < zs.length
  · exact clone_any a zs cap w hR h0 hl
  · obtain rfl : zs = [] := List.length_eq_zero_iff.1 (by omega)
    have q22 : ∀ (w : World) (a : Option Addr) (n c n' c' : Nat), (binOp .eql 22 (.slice a n c) (.slice none n' c')).run Tryd.prog w = .ok (.bool a.isNone) w := fun w a n c n' c' => Lib.run_eql_slice_nil w _ _ a n c n' c' Tryd.underlying22
    have HO := Lib.hid (own_empty w w.heap.size (Nat.le_refl _))
    clear hR hl h0
    cases a with
    | none =>
      go_enter Tryd.func40, Tryd.ntmps40
      go_wp2_with fail
      go_ret
      exact ⟨none, 0, rfl, Own.nil _ _, Below.refl _ _⟩
    | some ad =>
      go_enter Tryd.func40, Tryd.ntmps40
      go_wp2_with (at_builtin; refine wpList_appNone rfl _ _ rfl rfl HO.out rfl (by simp) ?_; intro a' cap' W' hown' hb')
      go_ret
      exact ⟨a', cap', rfl, hown', ((Below.refl _ w).alloc (Nat.le_refl _) _).trans hb'⟩

theorem cut_row {W : World} {a : Option Addr} {cap : Nat} {zs ts : List Int} (h : Row W a zs cap) (hp : zs.take ts.length = ts) : ∃ a' c', cut a cap ts = .slice a' ts.length c' ∧ Row W a' ts c' ∧ ∀ B, Fresh B a zs → Fresh B a' ts := by
  unfold cut
  split
  · rename_i e; subst e; exact ⟨none, 0, rfl, ⟨Nat.le_refl _, by omega, fun j hj => by simp at hj⟩, fun B _ b off e => by cases e⟩
  · have hl : ts.length ≤ zs.length := by have := congrArg List.length hp; rw [List.length_take] at this; omega
    exact ⟨a, cap, rfl, ⟨Nat.le_trans hl h.room, h.most, fun j hj => by
      obtain ⟨b, off, e, hc⟩ := h.el j (by omega)
      refine ⟨b, off, e, hc.trans ?_⟩
      rw [← hp, M.el_take (by omega)]⟩, fun B hf b off e hl2 => hf b off e (by omega)⟩

theorem M.dig_top {y n : Nat} (hl : (M.dig y).length = n + 1) : 0 < M.el (M.dig y) n := by
  have h0 : y ≠ 0 := by rintro rfl; rw [M.dig_zero] at hl; simp at hl
  have h1 := M.dig_last h0
  rw [List.getLast?_eq_getElem?, List.getElem?_eq_getElem (by omega)] at h1
  have h2 := (M.lim_dig y).get n
  rcases Int.lt_or_eq_of_le h2.1 with h | h
  · exact h
  · exfalso; apply h1
    rw [M.el_lt (by omega)] at h
    simp only [hl, Nat.add_sub_cancel]
    rw [← h]

def DivPost (w : World) (x y : Nat) (e : Ending) (W : World) : Prop :=
  ∃ a1 c1 a2 c2, e = .returned (.tuple #[.slice a1 (M.dig (x / y)).length c1, .slice a2 (M.dig (x % y)).length c2]) ∧ Row W a1 (M.dig (x / y)) c1 ∧ Row W a2 (M.dig (x % y)) c2 ∧ Fresh w.heap.size a1 (M.dig (x / y)) ∧ Fresh w.heap.size a2 (M.dig (x % y)) ∧ Below w.heap.size w W

theorem trim_dig {zs : List Int} {n : Nat} (h : M.Lim zs) (hv : M.val zs = n) : M.trimL zs = M.dig n := by
  rw [M.trimL_dig h, hv, Int.toNat_natCast]

/-- Both slices are trimmed: the last lines of divideLimbs. -/
theorem trim_num (a : Option Addr) (zs : List Int) (cap n : Nat) (w : World) (hR : Row w a zs cap) (hl : M.Lim zs) (hv : M.val zs = n) :
    Calls Tryd.prog 41 #[.slice a zs.length cap] w fun e W' => ∃ a' c', e = .returned (.slice a' (M.dig n).length c') ∧ Row W' a' (M.dig n) c' ∧ (∀ B, Fresh B a zs → Fresh B a' (M.dig n)) ∧ Below w.heap.size w W' := by
  refine (trim_any a zs cap w hR).mono ?_
  rintro e W' ⟨rfl, hb⟩
  have ht := trim_dig hl hv
  obtain ⟨a', c', e1, r, f⟩ := cut_row (ts := M.trimL zs) (hR.below hb) (M.trimL_take zs)
  rw [e1]
  rw [ht] at r f ⊢
  exact ⟨a', c', rfl, r, f, hb⟩

set_option maxRecDepth 100000 in
set_option maxHeartbeats 1000000 in
theorem divideLimbs_any (a b : Option Addr) (ca cb x y : Nat) (w : World) (hy : 0 < y) (hx200 : (M.dig x).length ≤ 200) (hy200 : (M.dig y).length ≤ 200) (hA : Row w a (M.dig x) ca) (hB : Row w b (M.dig y) cb) :
    Calls Tryd.prog 50 #[.slice a (M.dig x).length ca, .slice b (M.dig y).length cb] w (DivPost w x y) := by
  have hy0 : 0 < (M.dig y).length := by
    rcases Nat.eq_zero_or_pos (M.dig y).length with h | h
    · have := M.dig_nil.1 (List.length_eq_zero_iff.1 h); omega
    · exact h
  by_cases hlt : (M.dig x).length < (M.dig y).length
  · have hxy : x < y := by
      have h1 : x < 16777216 ^ (M.dig x).length := M.dig_len_le.1 (Nat.le_refl _)
      by_cases h : x < y
      · exact h
      · have h2 : (M.dig y).length ≤ (M.dig x).length := M.dig_len_le.2 (by omega)
        omega
    have hcl := clone_row a (M.dig x) ca w hA (by omega)
    have HC := Lib.hid hcl
    have HXY := Lib.hid hxy
    clear hcl hxy hA hB hy
    go_enter Tryd.func50, Tryd.ntmps50
    go_wp2_with fail
    refine HC.out.mono ?_
    rintro e w' ⟨a', c', rfl, ho, hb⟩
    have HO := Lib.hid ho
    have HB := Lib.hid hb
    clear ho hb
    go_wp2_with fail
    go_ret2
    have e1 : x / y = 0 := Nat.div_eq_of_lt HXY.out
    have e2 : x % y = x := Nat.mod_eq_of_lt HXY.out
    refine ⟨none, 0, a', c', by rw [e1, e2, M.dig_zero]; rfl, ?_, ?_, (fun b off e => (by cases e)), ?_, HB.out⟩
    · rw [e1, M.dig_zero]; exact ⟨Nat.le_refl _, by omega, fun j hj => by simp at hj⟩
    · rw [e2]; exact HO.out.rowAt
    · rw [e2]; exact HO.out.fresh
  · by_cases h1 : (M.dig y).length = 1
    · have hyv := M.val_dig y
      obtain ⟨z, hz⟩ : ∃ z, M.dig y = [z] := List.length_eq_one_iff.1 h1
      have hlz := M.lim_dig y
      rw [hz] at hyv hlz
      have hzy : z = (y : Int) := by simpa [M.val] using hyv
      have hzb := hlz.head
      subst hzy
      obtain ⟨bb, bo, rfl, hc0⟩ := hB.el 0 hy0
      rw [hz] at hc0
      have hcl := clone_row a (M.dig x) ca w hA (by omega)
      have HC := Lib.hid hcl
      have hn : decide ((M.dig x).length < (M.dig y).length) = false := decide_eq_false hlt
      have HY1 := Lib.hid h1
      rw [h1] at hlt hn ⊢
      have hx1 : 1 ≤ (M.dig x).length := by omega
      have hbr := hB.room
      have hbm := hB.most
      rw [h1] at hbr
      clear hcl hA hB hz hyv hlz hlt h1
      simp only [M.el_zero, Nat.add_zero] at hc0
      go_enter Tryd.func50, Tryd.ntmps50
      go_wp2_with fail
      refine HC.out.mono ?_
      rintro e w1 ⟨a1, c1, rfl, ho, hb⟩
      have hc1 := cell_below hb hc0
      have HB := Lib.hid hb
      have hsh := shrink_any w.heap.size a1 c1 (M.dig x) y w1 hy (by omega) (M.lim_dig x) ho
      have HSH := Lib.hid hsh
      have HO1 := Lib.hid ho
      clear hb hsh ho hc0
      go_wp2_with fail
      refine HSH.out.mono ?_
      rintro e w2 ⟨rfl, ho2, hg2⟩
      obtain ⟨hs1, hs2⟩ := M.shr_nat hy (M.lim_dig x) (M.val_dig x)
      have HFQ : Hid (Fresh w.heap.size a1 (M.shr (y : Int) (M.dig x)).2) := ho2.fresh
      have HB2 := Lib.hid (HB.out.trans (below_of_grown HO1.out hg2 HB.out.size))
      rw [hs2]
      have hq2 : Row w2 a1 (M.shr (y : Int) (M.dig x)).2 c1 := (show Own w2 w.heap.size (.slice a1 (M.shr (y : Int) (M.dig x)).2.length c1) (M.shr (y : Int) (M.dig x)).2 by rw [M.shr_len]; exact ho2).rowAt
      have hvq : M.val (M.shr (y : Int) (M.dig x)).2 = ((x / y : Nat) : Int) := by
        have h1 := M.shr_val (y : Int) (M.dig x)
        rw [hs2, M.val_dig] at h1
        have h2 : ((x / y : Nat) : Int) * y + ((x % y : Nat) : Int) = x := by rw [← Int.natCast_mul, ← Int.natCast_add]; congr 1; exact Nat.div_add_mod' x y
        have h3 : M.val (M.shr (y : Int) (M.dig x)).2 * y = ((x / y : Nat) : Int) * y := by omega
        exact Int.eq_of_mul_eq_mul_right (by omega) h3
      have hlq := M.shr_lim (y : Int) (by omega) (M.lim_dig x)
      have HT1 := Lib.hid (fun (W : World) (hb : Below w2.heap.size w2 W) => trim_num a1 _ c1 (x / y) W (hq2.below hb) hlq hvq)
      have hrm : ((x % y : Nat) : Int) < 16777216 := by have := Nat.mod_lt x hy; omega
      have hrm0 : 0 ≤ ((x % y : Nat) : Int) := by omega
      obtain ⟨r, hr⟩ : ∃ r, x % y = r := ⟨_, rfl⟩
      rw [hr] at hrm hrm0 ⊢
      have hrow2 : Row (w2.alloc (.cells #[.int .i64 (r : Int)] 3)) (some ⟨w2.heap.size, 0, none⟩) [(r : Int)] 1 := ⟨Nat.le_refl _, by omega, fun j hj => ⟨_, 0, rfl, by
        obtain rfl : j = 0 := by simpa using hj
        simp⟩⟩
      have HT2 := Lib.hid (fun (W : World) (hb : Below (w2.alloc (.cells #[.int .i64 (r : Int)] 3)).heap.size (w2.alloc (.cells #[.int .i64 (r : Int)] 3)) W) => trim_num (some ⟨w2.heap.size, 0, none⟩) [(r : Int)] 1 r W (hrow2.below hb) (M.Lim.cons hrm0 hrm M.Lim.nil) (by simp [M.val]))
      have HR := Lib.hid hr
      rw [M.shr_len] at HT1
      clear hrow2 hq2 hvq hlq hs1 hs2 ho2 hg2 hr HSH HC HO1 HB
      go_wp2_with fail
      refine (HT1.out _ ((Below.refl _ _).alloc (Nat.le_refl _) _)).mono ?_
      rintro e w3 ⟨a3, c3, rfl, hr3, hf3, hb3⟩
      have HF3 := Lib.hid hf3
      have HR3 := Lib.hid hr3
      have HB3 := Lib.hid hb3
      clear hr3 hf3 hb3
      go_wp2_with fail
      refine (HT2.out _ HB3.out).mono ?_
      rintro e w4 ⟨a4, c4, rfl, hr4, hf4, hb4⟩
      have HF4 := Lib.hid hf4
      have HR4 := Lib.hid hr4
      have HB4 := Lib.hid hb4
      clear hr4 hf4 hb4
      go_wp2_with fail
      go_ret2
      refine ⟨a3, c3, a4, c4, by rw [HR.out]; rfl, HR3.out.below HB4.out, by rw [HR.out]; exact HR4.out, HF3.out _ HFQ.out, by rw [HR.out]; exact HF4.out _ (fun b off e _ => by cases e; exact HB2.out.size), ?_⟩
      exact (((HB2.out.alloc HB2.out.size _).trans (HB3.out.mono (by have := HB2.out.size; simp; omega))).trans (HB4.out.mono (by have := HB2.out.size; have := HB3.out.size; simp at this; omega)))
    · obtain ⟨n, hn⟩ : ∃ n, (M.dig y).length = n + 2 := ⟨(M.dig y).length - 2, by omega⟩
      obtain ⟨m, hm⟩ : ∃ m, (M.dig x).length = n + 2 + m := ⟨(M.dig x).length - (n + 2), by omega⟩
      have hlong := divideLong_any a b ca cb (M.dig x) (M.dig y) n m w hm hn (M.lim_dig x) (M.lim_dig y) (M.dig_top hn) (by omega) hA hB
      have hra := hA.room
      have hma := hA.most
      have hrb := hB.room
      have hmb := hB.most
      rw [hm] at hlt hra ⊢
      rw [hn] at hlt h1 hrb ⊢
      have hn1 : decide (n + 2 + m < n + 2) = false := decide_eq_false (by omega)
      have hn3 : (((n : Int) + 2) == 1) = false := by simp; omega
      have HL := Lib.hid hlong
      clear hlong hn hm hA hB hlt h1 hy0 hx200 hy200
      go_enter Tryd.func50, Tryd.ntmps50
      go_wp2_with fail
      refine HL.out.mono ?_
      rintro e w1 ⟨a1, c1, qs, a2, c2, rs, rfl, hr1, hr2, hl1, hl2, hv1, hv2, hf1, hf2, hb⟩
      have HF1 := Lib.hid hf1
      have HF2 := Lib.hid hf2
      rw [M.val_dig, M.val_dig, ← Int.natCast_ediv] at hv1
      rw [M.val_dig, M.val_dig, ← Int.natCast_emod] at hv2
      have HT1 := Lib.hid (trim_num a1 qs c1 (x / y) w1 hr1 hl1 hv1)
      have HT2 := Lib.hid (fun (W : World) (hb : Below w1.heap.size w1 W) => trim_num a2 rs c2 (x % y) W (hr2.below hb) hl2 hv2)
      have HB := Lib.hid hb
      clear hr1 hr2 hl1 hl2 hv1 hv2 hf1 hf2 hb HL
      go_wp2_with fail
      refine HT1.out.mono ?_
      rintro e w3 ⟨a3, c3, rfl, hr3, hf3, hb3⟩
      have HF3 := Lib.hid hf3
      have HR3 := Lib.hid hr3
      have HB3 := Lib.hid hb3
      clear hr3 hf3 hb3
      go_wp2_with fail
      refine (HT2.out _ HB3.out).mono ?_
      rintro e w4 ⟨a4, c4, rfl, hr4, hf4, hb4⟩
      have HF4 := Lib.hid hf4
      have HR4 := Lib.hid hr4
      have HB4 := Lib.hid hb4
      clear hr4 hf4 hb4
      go_wp2_with fail
      go_ret2
      refine ⟨a3, c3, a4, c4, rfl, HR3.out.below HB4.out, HR4.out, HF3.out _ HF1.out, HF4.out _ HF2.out, ?_⟩
      exact (HB.out.trans (HB3.out.mono HB.out.size)).trans (HB4.out.mono (Nat.le_trans HB.out.size HB3.out.size))
end Go.Proofs.YtmejneobfkbgeaaDoor

namespace Go.Proofs.YtmejneobfkbgeaaDoor
open Go Go.RowKit Go.Shelf

set_option maxHeartbeats 400000 in
/-- **ref01.limb** -/
theorem rlimb_any (a : Option Addr) (zs : List Int) (cap : Nat) (k : Nat) (w : World) (hR : Row w a zs cap) :
    Calls Tryd.prog 53 #[.agg #[.slice a zs.length cap], .int .i64 (k : Int)] w fun e W' => e = .returned (.int .i64 (M.el zs k)) ∧ Below w.heap.size w W' := by
  have hroom := hR.room
  have hmost := hR.most
  have hb := (Below.refl _ w).alloc (Nat.le_refl _) (.cells #[.slice a zs.length cap] 24)
  have HB := Lib.hid hb
  by_cases h : k < zs.length
  · obtain ⟨b, off, rfl, hc⟩ := hR.el k h
    have hc' := cell_below hb hc
    clear hb hc
    go_enter Tryd.func53, Tryd.ntmps53
    go_wp2
    go_ret
    exact ⟨rfl, HB.out⟩
  · have hz := Lib.hid (M.el_ge (zs := zs) (k := k) (by omega))
    clear hb
    go_enter Tryd.func53, Tryd.ntmps53
    go_wp2
    go_ret
    exact ⟨by rw [hz.out]; rfl, HB.out⟩

theorem Row.take {W : World} {a : Option Addr} {cap : Nat} {zs : List Int} (h : Row W a zs cap) (t : Nat) : Row W a (zs.take t) cap :=
  ⟨by have := h.room; rw [List.length_take]; omega, h.most, fun j hj => by
    rw [List.length_take] at hj
    obtain ⟨b, off, e, hc⟩ := h.el j (by omega)
    exact ⟨b, off, e, by rw [M.el_take (by omega)]; exact hc⟩⟩

theorem trimL_stop {zs : List Int} {k : Nat} (hk : k ≤ zs.length) (hz : ∀ j : Nat, k ≤ j → M.el zs j = 0) (h : k = 0 ∨ M.el zs (k - 1) ≠ 0) : (M.trimL zs).length = k := by
  rcases h with rfl | h
  · rw [M.trimL_none zs (fun j => hz j (Nat.zero_le _))]; rfl
  · rcases Nat.eq_zero_or_pos k with rfl | h0
    · rw [M.trimL_none zs (fun j => hz j (Nat.zero_le _))]; rfl
    · have := M.trimL_at zs (k - 1) h (fun i hi => hz i (by omega))
      omega

/-- The result is the number n, in memory made from block B on, or ErrLimit if it is too long. -/
def NatFit (B n : Nat) (e : Ending) (W : World) : Prop :=
  if (M.dig n).length ≤ 200 then ∃ v, e = .returned (.tuple #[v, .int .i64 0]) ∧ ∃ a c, v = .agg #[.slice a (M.dig n).length c] ∧ Row W a (M.dig n) c ∧ Fresh B a (M.dig n) else e = .returned (.tuple #[.agg #[.slice none 0 0], .int .i64 3])
theorem NatFit.ok {B n : Nat} {e : Ending} {W : World} (h : NatFit B n e W) (hl : (M.dig n).length ≤ 200) : ∃ v, e = .returned (.tuple #[v, .int .i64 0]) ∧ ∃ a c, v = .agg #[.slice a (M.dig n).length c] ∧ Row W a (M.dig n) c ∧ Fresh B a (M.dig n) := by
  unfold NatFit at h; rwa [if_pos hl] at h
theorem NatFit.limit {B n : Nat} {e : Ending} {W : World} (h : NatFit B n e W) (hl : ¬ (M.dig n).length ≤ 200) : e = .returned (.tuple #[.agg #[.slice none 0 0], .int .i64 3]) := by
  unfold NatFit at h; rwa [if_neg hl] at h

def FitRel (zs : List Int) (i : Value) : Prop := ∃ k : Nat, i = .int .i64 (k : Int) ∧ k ≤ zs.length ∧ ∀ j : Nat, k ≤ j → M.el zs j = 0

set_option maxRecDepth 100000 in
set_option maxHeartbeats 1000000 in
/-- **ref01.fit**, of a slice that is not nil. -/
theorem rfit_trim (b off : Nat) (zs : List Int) (cap n : Nat) (w : World) (hR : Row w (some ⟨b, off, none⟩) zs cap) (ht : M.trimL zs = M.dig n) :
    Calls Tryd.prog 54 #[.slice (some ⟨b, off, none⟩) zs.length cap] w fun e W' => NatFit w.heap.size n e W' ∧ Below w.heap.size w W' := by
  have hroom := hR.room
  have hmost := hR.most
  have hb := (Below.refl _ w).alloc (Nat.le_refl _) (.cells #[.slice none 0 0] 24)
  have HR := Lib.hid (hR.below hb)
  have HT := Lib.hid ht
  have HB := Lib.hid hb
  have c2 := cell_new w (.slice none 0 0) 24
  have f2 := frozen_new w (.slice none 0 0) 24
  clear hR ht hb
  go_enter Tryd.func54, Tryd.ntmps54
  go_wp2_with fail
  go_loop [4] (fun i => FitRel zs i) (fun i => (intOf i).toNat)
  case atStart => exact ⟨zs.length, rfl, Nat.le_refl _, fun j hj => M.el_ge hj⟩
  case round =>
    obtain ⟨k, rfl, hk, hz⟩ := hrel
    have HZ := Lib.hid hz
    clear hz
    by_cases hgo : 0 < k ∧ M.el zs (k - 1) = 0
    · obtain ⟨h0, he⟩ := hgo
      have hc := HR.out.cell (k - 1) (by omega)
      have e1 : off + ((k : Int) - 1).toNat = off + (k - 1) := by omega
      rw [he] at hc
      have HE := Lib.hid he
      clear he
      have ecast : (k : Int) - 1 = ((k - 1 : Nat) : Int) := by omega
      have HEC := Lib.hid ecast
      clear ecast
      go_wp2_with fail
      go_round
      case rel => exact ⟨k - 1, by rw [HEC.out], by omega, fun j hj => by
        rcases Nat.lt_or_ge j k with h | h
        · rw [show j = k - 1 by omega]; exact HE.out
        · exact HZ.out j h⟩
      case measure => simp [intOf]; omega
    · have hst : (M.trimL zs).length = k := trimL_stop hk HZ.out (by
        rcases Nat.eq_zero_or_pos k with h | h
        · exact .inl h
        · exact .inr (fun e => hgo ⟨h, e⟩))
      have htk : zs.take k = M.dig n := by rw [← HT.out, ← hst, M.trimL_take]
      have hdl : (M.dig n).length = k := by rw [← HT.out]; exact hst
      have hfin : ∀ (P : Prop), (0 < k → (decide (M.el zs (k - 1) = 0) = false) → P) → (k = 0 → P) → P := fun P h1 h2 => by
        rcases Nat.eq_zero_or_pos k with h | h
        · exact h2 h
        · exact h1 h (decide_eq_false fun e => hgo ⟨h, e⟩)
      have hrt := HR.out.take k
      rw [htk] at hrt
      have HRT := Lib.hid hrt
      clear hst htk hgo hrt
      subst hdl
      refine hfin _ ?_ ?_
      · intro h0 hne
        have hc := HR.out.cell ((M.dig n).length - 1) (by omega)
        have e1 : off + (((M.dig n).length : Int) - 1).toNat = off + ((M.dig n).length - 1) := by omega
        have hne2 : (M.el zs ((M.dig n).length - 1) == 0) = false := by rw [beq_eq_false_iff_ne]; exact of_decide_eq_false hne
        obtain ⟨z, hz⟩ : ∃ z, M.el zs ((M.dig n).length - 1) = z := ⟨_, rfl⟩
        rw [hz] at hc hne2
        clear hne hfin hz
        by_cases h200 : (M.dig n).length ≤ 200
        · go_wp2_with (at_builtin; refine wpList_appAll rfl _ _ rfl rfl (Own.nil _ (w.heap.size + 1)) rfl HRT.out (by simp; omega) (by simp) ?_; intro a' cap' W' hown' hb'; have d2 := (hb'.cell (p := ⟨w.heap.size, 0, none⟩) (by simp)).trans c2; have g2 := (hb'.frozen (p := ⟨w.heap.size, 0, none⟩) (by simp)).trans f2)
          refine bodyPost_ret (v := .tuple #[.agg #[.slice a' (M.dig n).length cap'], .int .i64 0]) (by simp [results, Tryd.results54, go_sem, d2]) rfl ⟨by unfold NatFit; rw [if_pos h200]; exact ⟨_, rfl, a', cap', rfl, (hown'.setBelow (p := ⟨w.heap.size, 0, none⟩) (by simp) (.slice a' (M.dig n).length cap')).rowAt, (hown'.mono (B' := w.heap.size) (by omega)).fresh⟩, ?_⟩
          · exact (HB.out.trans (hb'.mono (by omega))).setCell (p := ⟨w.heap.size, 0, none⟩) (Nat.le_refl _) _
        · go_wp2_with fail
          refine bodyPost_ret (v := .tuple #[.agg #[.slice none 0 0], .int .i64 3]) (by simp [results, Tryd.results54, go_sem, c2]) rfl ⟨by unfold NatFit; rw [if_neg h200], HB.out⟩
      · intro h0
        obtain rfl : n = 0 := M.dig_nil.1 (List.length_eq_zero_iff.1 h0)
        have hd0 : ((M.dig 0).length : Int) = 0 := by rw [M.dig_zero]; rfl
        have hdn : (M.dig 0).length = 0 := by rw [M.dig_zero]; rfl
        clear hfin hk HZ
        rw [hd0]
        go_wp2_with (at_builtin; refine wpList_appNone rfl _ _ rfl rfl (Own.nil _ (w.heap.size + 1)) rfl (by simp) ?_; intro a' cap' W' hown' hb'; have d2 := (hb'.cell (p := ⟨w.heap.size, 0, none⟩) (by simp)).trans c2; have g2 := (hb'.frozen (p := ⟨w.heap.size, 0, none⟩) (by simp)).trans f2)
        have hn := (hown'.setBelow (p := ⟨w.heap.size, 0, none⟩) (by simp) (.slice a' 0 cap'))
        refine bodyPost_ret (v := .tuple #[.agg #[.slice a' 0 cap'], .int .i64 0]) (by simp [results, Tryd.results54, go_sem, d2]) rfl ⟨by unfold NatFit; rw [if_pos (by rw [M.dig_zero]; simp)]; exact ⟨_, rfl, a', cap', by rw [hdn], by rw [M.dig_zero]; exact hn.rowAt, fun b off e hl => by rw [M.dig_zero] at hl; simp at hl⟩, ?_⟩
        · exact (HB.out.trans (hb'.mono (by omega))).setCell (p := ⟨w.heap.size, 0, none⟩) (Nat.le_refl _) _

set_option maxRecDepth 100000 in
set_option maxHeartbeats 1000000 in
/-- **ref01.Valid** of a valid number. -/
theorem rvalid_yes (a : Option Addr) (zs : List Int) (cap : Nat) (w : World) (hR : Row w a zs cap) (hV : Vld zs) :
    Calls Tryd.prog 52 #[.agg #[.slice a zs.length cap]] w fun e W' => e = .returned (.bool true) ∧ Below w.heap.size w W' := by
  have hroom := hR.room
  have hmost := hR.most
  have hb := (Below.refl _ w).alloc (Nat.le_refl _) (.cells #[.slice a zs.length cap] 24)
  have HR := Lib.hid (hR.below hb)
  have HB := Lib.hid hb
  have HV := Lib.hid hV
  have c0 := cell_new w (.slice a zs.length cap) 24
  have hl200 : zs.length ≤ 200 := hV.len
  clear hR hb hV
  by_cases h0 : 0 < zs.length
  · have htop := HV.out.last h0
    obtain ⟨b, off, rfl, hc⟩ := HR.out.el (zs.length - 1) (by omega)
    have e1 : off + ((zs.length : Int) - 1).toNat = off + (zs.length - 1) := by omega
    have hne : (M.el zs (zs.length - 1) == 0) = false := beq_eq_false_iff_ne.2 htop
    have HTOP := Lib.hid htop
    clear htop
    go_enter Tryd.func52, Tryd.ntmps52
    go_wp2_with fail
    clear hc e1 hne
    go_loop [4] (fun i => ∃ k : Nat, k ≤ zs.length ∧ i = .int .i64 k) (fun i => zs.length - (intOf i).toNat)
    case atStart => exact ⟨0, Nat.zero_le _, rfl⟩
    case round =>
      obtain ⟨k, hk, rfl⟩ := hrel
      have hl := HV.out.lim.get k
      by_cases hlt : k < zs.length
      · have hck := HR.out.cell k hlt
        go_wp2_with fail
        go_round
        case rel => exact ⟨k + 1, by omega, by go_num⟩
        case measure => simp [intOf]; omega
      · go_wp2_with fail
        go_ret
        exact ⟨rfl, HB.out⟩
  · obtain rfl : zs = [] := List.length_eq_zero_iff.1 (by omega)
    clear h0 HR HV
    go_enter Tryd.func52, Tryd.ntmps52
    go_wp2_with fail
    go_loop [4] (fun i => i = .int .i64 0) (fun _ => 0)
    case atStart => rfl
    case round =>
      obtain rfl := hrel
      go_wp2_with fail
      go_ret
      exact ⟨rfl, HB.out⟩

end Go.Proofs.YtmejneobfkbgeaaDoor
