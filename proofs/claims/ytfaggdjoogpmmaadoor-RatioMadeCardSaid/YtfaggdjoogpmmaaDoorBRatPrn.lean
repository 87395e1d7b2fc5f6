/- ratio.Print and the reference's Print of a valid fraction. -/
import Derived.Test.YtfaggdjoogpmmaaDoorBRatBad
import Derived.Test.YtfaggdjoogpmmaaDoorBBoth
import Derived.Test.YtfaggdjoogpmmaaDoorBQuietW
import Derived.Test.YtfaggdjoogpmmaaDoorBText
namespace Go.Proofs.YtfaggdjoogpmmaaDoor
open Go Go.RowKit Go.Shelf

theorem ten_bound {m n : Nat} (h : n < 16777216 ^ m) : ∃ K, n < 10 ^ K ∧ K ≤ 8 * m := ⟨8 * m, Nat.lt_of_lt_of_le h (pow_le_ten (Nat.le_refl _)), Nat.le_refl _⟩
theorem print_sized (x : Nat) (hx : (M.dig x).length ≤ 200) : ∃ S : ByteArray, S.size ≤ 1600 ∧
    (∀ (a : Option Addr) (ca : Nat) (w : World), Row w a (M.dig x) ca → Calls Tryd.prog 39 #[.agg #[.slice a (M.dig x).length ca]] w fun e W' => e = .returned (.string S) ∧ Below w.heap.size w W') ∧
    (∀ (a : Option Addr) (ca : Nat) (w : World), Row w a (M.dig x) ca → Calls Tryd.prog 68 #[.agg #[.slice a (M.dig x).length ca]] w fun e W' => e = .returned (.string S) ∧ Below w.heap.size w W') := by
  rcases Nat.eq_zero_or_pos x with rfl | hx0
  · refine ⟨_, ?_, fun a ca w hA => ?_, fun a ca w hA => rprint_zero a ca w hA⟩
    · show (1 : Nat) ≤ 1600
      omega
    · have hc := print_zero a ca w (by rwa [M.dig_zero] at hA)
      rw [show (M.dig 0).length = 0 by rw [M.dig_zero]; rfl]
      exact hc
  · obtain ⟨K, hK, hKl⟩ := ten_bound (M.dig_len_le.1 hx)
    refine ⟨⟨((M.decs K x).map UInt8.ofNat).toArray⟩, ?_, fun a ca w hA => (print_pos a ca x w hx0 hx hA).mono fun _ _ ⟨he, hb⟩ => ⟨prPost_at he hK, hb⟩, fun a ca w hA => (rprint_pos a ca x w hx0 hx hA).mono fun _ _ ⟨he, hb⟩ => ⟨prPost_at he hK, hb⟩⟩
    have h1 := decs_len K x
    show (((M.decs K x).map UInt8.ofNat).toArray).size ≤ 1600
    rw [List.size_toArray, List.length_map]
    omega
set_option maxRecDepth 100000 in
set_option maxHeartbeats 1000000 in
/-- **ratio.Print** -/
theorem ratPrint_ok {a b : Option Addr} {ca cb x y : Nat} {w : World} {S R : ByteArray} (hA : Row w a (M.dig x) ca) (hB : Row w b (M.dig y) cb) (hV : RVd (M.dig x) (M.dig y)) (hs : S.size ≤ 1600) (hr : R.size ≤ 1600)
    (h1 : ∀ (a : Option Addr) (ca : Nat) (w : World), Row w a (M.dig x) ca → Calls Tryd.prog 39 #[.agg #[.slice a (M.dig x).length ca]] w fun e W' => e = .returned (.string S) ∧ Below w.heap.size w W')
    (h2 : ∀ (a : Option Addr) (ca : Nat) (w : World), Row w a (M.dig y) ca → Calls Tryd.prog 39 #[.agg #[.slice a (M.dig y).length ca]] w fun e W' => e = .returned (.string R) ∧ Below w.heap.size w W') :
    Calls Tryd.prog 86 #[.agg #[.slice a (M.dig x).length ca, .slice b (M.dig y).length cb]] w fun e W' => e = .returned (.string (S ++ ⟨#[47]⟩ ++ R)) ∧ Below w.heap.size w W' := by
  obtain ⟨⟨k0, _⟩, k1, _⟩ := two_cells w (.slice a (M.dig x).length ca) (.slice b (M.dig y).length cb) 58
  have hb0 := (Below.refl _ w).alloc (Nat.le_refl _) (.cells #[.slice a (M.dig x).length ca, .slice b (M.dig y).length cb] 58)
  have HA := Lib.hid (hA.below hb0)
  have HB := Lib.hid (hB.below hb0)
  have HBB := Lib.hid hb0
  have HV := Lib.hid hV
  have H1 := Lib.hid h1
  have H2 := Lib.hid h2
  clear hA hB hb0 hV h1 h2
  go_enter Tryd.func86, Tryd.ntmps86
  go_wp2_with fail
  generalize (w.alloc (.cells #[.slice a (M.dig x).length ca, .slice b (M.dig y).length cb] 58)) = w0 at *
  refine (ratValid_ok a b ca cb (M.dig x) (M.dig y) _ HA.out HB.out HV.out).mono ?_
  rintro e w1 ⟨rfl, hb⟩
  replace k0 := cell_below hb k0
  replace k1 := cell_below hb k1
  replace HA := Lib.hid (HA.out.below hb)
  replace HB := Lib.hid (HB.out.below hb)
  replace HBB := Lib.hid (HBB.out.trans (hb.mono HBB.out.size))
  clear hb
  go_upto_region 3 with fail
  have HO := Over.one w1
  have j0 : ∀ n : Over w1, n.w.cell? ⟨w.heap.size, 0, none⟩ = some (.slice a (M.dig x).length ca) := fun n => cell_below n.h k0
  have j1 : ∀ n : Over w1, n.w.cell? ⟨w.heap.size, 1, none⟩ = some (.slice b (M.dig y).length cb) := fun n => cell_below n.h k1
  have rA := Lib.hid (fun n : Over w1 => HA.out.below n.h)
  have rB := Lib.hid (fun n : Over w1 => HB.out.below n.h)
  have z1 : (S ++ (⟨#[47]⟩ : ByteArray)).size = S.size + 1 := by rw [ByteArray.size_append]; rfl
  refine wp_region_over (by kernel_rfl) (by kernel_rfl) ?_
  repeat (go_big_quiet_step (first | exact fun _ => rfl | rfl | (with_reducible exact quiet_over (H1.out a ca _ (rA.out _))) | (with_reducible exact quiet_over (H2.out b cb _ (rB.out _)))))
  refine wpQuiet_nil ?_
  intro _ hw'
  obtain ⟨nq, rfl⟩ := hw'
  replace HBB := Lib.hid (HBB.out.trans (nq.h.mono HBB.out.size))
  go_wp2_with fail
  go_ret
  exact ⟨rfl, HBB.out⟩

set_option maxRecDepth 100000 in
set_option maxHeartbeats 1000000 in
/-- **memfaultref02.Print** -/
theorem rratPrint_ok {a b : Option Addr} {ca cb x y : Nat} {w : World} {S R : ByteArray} (hA : Row w a (M.dig x) ca) (hB : Row w b (M.dig y) cb) (hV : RVd (M.dig x) (M.dig y)) (hs : S.size ≤ 1600) (hr : R.size ≤ 1600)
    (h1 : ∀ (a : Option Addr) (ca : Nat) (w : World), Row w a (M.dig x) ca → Calls Tryd.prog 68 #[.agg #[.slice a (M.dig x).length ca]] w fun e W' => e = .returned (.string S) ∧ Below w.heap.size w W')
    (h2 : ∀ (a : Option Addr) (ca : Nat) (w : World), Row w a (M.dig y) ca → Calls Tryd.prog 68 #[.agg #[.slice a (M.dig y).length ca]] w fun e W' => e = .returned (.string R) ∧ Below w.heap.size w W') :
    Calls Tryd.prog 94 #[.agg #[.slice a (M.dig x).length ca, .slice b (M.dig y).length cb]] w fun e W' => e = .returned (.string (S ++ ⟨#[47]⟩ ++ R)) ∧ Below w.heap.size w W' := by
  obtain ⟨⟨k0, _⟩, k1, _⟩ := two_cells w (.slice a (M.dig x).length ca) (.slice b (M.dig y).length cb) 58
  have hb0 := (Below.refl _ w).alloc (Nat.le_refl _) (.cells #[.slice a (M.dig x).length ca, .slice b (M.dig y).length cb] 58)
  have HA := Lib.hid (hA.below hb0)
  have HB := Lib.hid (hB.below hb0)
  have HBB := Lib.hid hb0
  have HV := Lib.hid hV
  have H1 := Lib.hid h1
  have H2 := Lib.hid h2
  clear hA hB hb0 hV h1 h2
  go_enter Tryd.func94, Tryd.ntmps94
  go_wp2_with fail
  generalize (w.alloc (.cells #[.slice a (M.dig x).length ca, .slice b (M.dig y).length cb] 58)) = w0 at *
  refine (rratValid_yes a b ca cb (M.dig x) (M.dig y) _ HA.out HB.out HV.out).mono ?_
  rintro e w1 ⟨rfl, hb⟩
  replace k0 := cell_below hb k0
  replace k1 := cell_below hb k1
  replace HA := Lib.hid (HA.out.below hb)
  replace HB := Lib.hid (HB.out.below hb)
  replace HBB := Lib.hid (HBB.out.trans (hb.mono HBB.out.size))
  clear hb
  go_upto_region 3 with fail
  have HO := Over.one w1
  have j0 : ∀ n : Over w1, n.w.cell? ⟨w.heap.size, 0, none⟩ = some (.slice a (M.dig x).length ca) := fun n => cell_below n.h k0
  have j1 : ∀ n : Over w1, n.w.cell? ⟨w.heap.size, 1, none⟩ = some (.slice b (M.dig y).length cb) := fun n => cell_below n.h k1
  have rA := Lib.hid (fun n : Over w1 => HA.out.below n.h)
  have rB := Lib.hid (fun n : Over w1 => HB.out.below n.h)
  have z1 : (S ++ (⟨#[47]⟩ : ByteArray)).size = S.size + 1 := by rw [ByteArray.size_append]; rfl
  refine wp_region_over (by kernel_rfl) (by kernel_rfl) ?_
  repeat (go_big_quiet_step (first | exact fun _ => rfl | rfl | (with_reducible exact quiet_over (H1.out a ca _ (rA.out _))) | (with_reducible exact quiet_over (H2.out b cb _ (rB.out _)))))
  refine wpQuiet_nil ?_
  intro _ hw'
  obtain ⟨nq, rfl⟩ := hw'
  replace HBB := Lib.hid (HBB.out.trans (nq.h.mono HBB.out.size))
  go_wp2_with fail
  go_ret
  exact ⟨rfl, HBB.out⟩

end Go.Proofs.YtfaggdjoogpmmaaDoor
