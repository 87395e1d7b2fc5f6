/- The reference's Same at any two lists of limbs. -/
import Derived.Test.YtamniclnhenmgaaDoorSame
namespace Go.Proofs.YtamniclnhenmgaaDoor
open Go Go.RowKit Go.Shelf

set_option maxRecDepth 100000 in
set_option maxHeartbeats 1000000 in
/-- **ref01.Same** at limbs of two lengths. -/
theorem same_len (a b : Option Addr) (zs ys : List Int) (ca cb : Nat) (w : World) (hl : zs.length ≠ ys.length) :
    Calls Tryd.prog 30 #[.agg #[.slice a zs.length ca], .agg #[.slice b ys.length cb]] w fun e W' => e = .returned (.bool false) ∧ Below w.heap.size w W' := by
  have hB := boxes2_below w (.slice a zs.length ca) (.slice b ys.length cb)
  have HBB := Lib.hid hB
  have hb : ((zs.length : Int) != (ys.length : Int)) = true := by rw [bne_iff_ne]; omega
  clear hB hl
  go_enter Tryd.func30, Tryd.ntmps30
  go_wp2_with fail
  go_ret
  exact ⟨rfl, HBB.out⟩

set_option maxRecDepth 100000 in
set_option maxHeartbeats 1000000 in
/-- **ref01.Same** at other limbs, as many. -/
theorem same_not (a b : Option Addr) (zs ys : List Int) (ca cb : Nat) (w : World) (ha : Row w a zs ca) (hb : Row w b ys cb) (hl : zs.length = ys.length) (hne : zs ≠ ys) :
    Calls Tryd.prog 30 #[.agg #[.slice a zs.length ca], .agg #[.slice b ys.length cb]] w fun e W' => e = .returned (.bool false) ∧ Below w.heap.size w W' := by
  have hB := boxes2_below w (.slice a zs.length ca) (.slice b ys.length cb)
  have HC := Lib.hid (boxes2_cells w (.slice a zs.length ca) (.slice b ys.length cb))
  have HA := Lib.hid (ha.below hB)
  have HB := Lib.hid (hb.below hB)
  have HBB := Lib.hid hB
  have HNE := Lib.hid hne
  have HL := Lib.hid hl
  have hra := ha.room
  have hrb := hb.room
  have hma := ha.most
  have hmb := hb.most
  have hlb : ((zs.length : Int) != (ys.length : Int)) = false := by rw [bne_eq_false_iff_eq, hl]
  clear ha hb hB hne hl
  go_enter Tryd.func30, Tryd.ntmps30
  go_wp2_with fail
  generalize hw2 : ((w.alloc (.cells #[.slice a zs.length ca] 24)).alloc (.cells #[.slice b ys.length cb] 24)) = w2
  obtain rfl : boxes2 w (.slice a zs.length ca) (.slice b ys.length cb) = w2 := hw2
  generalize boxes2 w (.slice a zs.length ca) (.slice b ys.length cb) = w2 at *
  go_loopw [5] (fun i wr => ∃ k : Nat, i = .int .i64 (k : Int) ∧ k ≤ zs.length ∧ (∀ j : Nat, j < k → M.el zs j = M.el ys j) ∧ Below w2.heap.size w2 wr) (fun i _ => zs.length - (intOf i).toNat)
  case atStart => exact ⟨0, rfl, Nat.zero_le _, fun j hj => by omega, Below.refl _ _⟩
  case round =>
    obtain ⟨k, rfl, hk, he, hbw⟩ := hrel
    have c0 : wr.cell? ⟨w.heap.size, 0, none⟩ = some (.slice a zs.length ca) := (hbw.cell (p := ⟨w.heap.size, 0, none⟩) (lt_of_cell HC.out.1)).trans HC.out.1
    have c1 : wr.cell? ⟨w.heap.size + 1, 0, none⟩ = some (.slice b ys.length cb) := (hbw.cell (p := ⟨w.heap.size + 1, 0, none⟩) (lt_of_cell HC.out.2)).trans HC.out.2
    have HBW := Lib.hid hbw
    have HE := Lib.hid he
    clear hbw he
    by_cases hlt : k < zs.length
    · obtain ⟨b1, o1, rfl, h1⟩ := (HA.out.below HBW.out).el k hlt
      have hlty : k < ys.length := by rw [← HL.out]; exact hlt
      obtain ⟨b2, o2, rfl, h2⟩ := (HB.out.below HBW.out).el k hlty
      by_cases hk2 : M.el zs k = M.el ys k
      · have HK := Lib.hid hk2
        rw [hk2] at h1
        clear hk2
        go_wp2_with fail
        go_quiet (fail)
        go_wp2
        go_roundw
        case rel =>
          refine ⟨k + 1, by go_num, by omega, fun j hj => ?_, belowN HBW.out _⟩
          by_cases e : j = k
          · rw [e]; exact HK.out
          · exact HE.out j (by omega)
        case measure => simp [intOf]; omega
      · have hkb : (M.el zs k != M.el ys k) = true := by rw [bne_iff_ne]; exact hk2
        clear hk2
        go_wp2_with fail
        go_quiet (fail)
        go_wp2_with fail
        go_ret
        exact ⟨rfl, HBB.out.trans ((belowN HBW.out _).mono HBB.out.size)⟩
    · exact absurd (M.ext_el HL.out fun j hj => HE.out j (by omega)) HNE.out

/-- **ref01.Same** of two numbers. -/
theorem same_is {u v : Value} {x y : Nat} {w : World} (hu : Num w u x) (hv : Num w v y) :
    Calls Tryd.prog 30 #[u, v] w fun e W' => e = .returned (.bool (decide (x = y))) ∧ Below w.heap.size w W' := by
  by_cases h : x = y
  · subst h
    rw [show decide (x = x) = true from decide_eq_true rfl]
    exact same_num hu hv
  · rw [show decide (x = y) = false from decide_eq_false h]
    obtain ⟨a, ca, rfl, ha⟩ := hu
    obtain ⟨b, cb, rfl, hb⟩ := hv
    by_cases hl : (M.dig x).length = (M.dig y).length
    · exact same_not a b _ _ ca cb w ha hb hl fun e => h (M.dig_inj e)
    · exact same_len a b _ _ ca cb w hl
end Go.Proofs.YtamniclnhenmgaaDoor
