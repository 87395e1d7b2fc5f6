/- The reference's Same at equal numbers, and made.Mod. -/
import Derived.Test.YtamniclnhenmgaaDoorAdd
namespace Go.Proofs.YtamniclnhenmgaaDoor
open Go Go.RowKit Go.Shelf

/-- The world behind two boxes. -/
def boxes2 (w : World) (u v : Value) : World := (w.alloc (.cells #[u] 24)).alloc (.cells #[v] 24)
theorem boxes2_size (w : World) (u v : Value) : (boxes2 w u v).heap.size = w.heap.size + 2 := by simp [boxes2]
theorem boxes2_below (w : World) (u v : Value) : Below w.heap.size w (boxes2 w u v) := ((Below.refl _ w).alloc (Nat.le_refl _) _).alloc (by simp) _
theorem boxes2_cells (w : World) (u v : Value) : (boxes2 w u v).cell? ⟨w.heap.size, 0, none⟩ = some u ∧ (boxes2 w u v).cell? ⟨w.heap.size + 1, 0, none⟩ = some v := by
  have h0 := cell_new w u 24
  have h1 := cell_new (w.alloc (.cells #[u] 24)) v 24
  simp only [World.size_alloc] at h1
  exact ⟨cell_later _ h0, h1⟩

set_option maxRecDepth 100000 in
set_option maxHeartbeats 1000000 in
/-- **ref01.Same** at equal limbs. -/
theorem same_any (a b : Option Addr) (zs : List Int) (ca cb : Nat) (w : World) (ha : Row w a zs ca) (hb : Row w b zs cb) :
    Calls Tryd.prog 30 #[.agg #[.slice a zs.length ca], .agg #[.slice b zs.length cb]] w fun e W' => e = .returned (.bool true) ∧ Below w.heap.size w W' := by
  have hB := boxes2_below w (.slice a zs.length ca) (.slice b zs.length cb)
  have HC := Lib.hid (boxes2_cells w (.slice a zs.length ca) (.slice b zs.length cb))
  have HA := Lib.hid (ha.below hB)
  have HB := Lib.hid (hb.below hB)
  have HBB := Lib.hid hB
  have hra := ha.room
  have hrb := hb.room
  have hma := ha.most
  have hmb := hb.most
  clear ha hb hB
  go_enter Tryd.func30, Tryd.ntmps30
  go_wp2_with fail
  generalize hw2 : ((w.alloc (.cells #[.slice a zs.length ca] 24)).alloc (.cells #[.slice b zs.length cb] 24)) = w2
  obtain rfl : boxes2 w (.slice a zs.length ca) (.slice b zs.length cb) = w2 := hw2
  generalize boxes2 w (.slice a zs.length ca) (.slice b zs.length cb) = w2 at *
  go_loopw [5] (fun i wr => ∃ k : Nat, i = .int .i64 (k : Int) ∧ k ≤ zs.length ∧ Below w2.heap.size w2 wr) (fun i _ => zs.length - (intOf i).toNat)
  case atStart => exact ⟨0, rfl, Nat.zero_le _, Below.refl _ _⟩
  case round =>
    obtain ⟨k, rfl, hk, hbw⟩ := hrel
    have c0 : wr.cell? ⟨w.heap.size, 0, none⟩ = some (.slice a zs.length ca) := (hbw.cell (p := ⟨w.heap.size, 0, none⟩) (lt_of_cell HC.out.1)).trans HC.out.1
    have c1 : wr.cell? ⟨w.heap.size + 1, 0, none⟩ = some (.slice b zs.length cb) := (hbw.cell (p := ⟨w.heap.size + 1, 0, none⟩) (lt_of_cell HC.out.2)).trans HC.out.2
    have HBW := Lib.hid hbw
    clear hbw
    by_cases hlt : k < zs.length
    · obtain ⟨b1, o1, rfl, h1⟩ := (HA.out.below HBW.out).el k hlt
      obtain ⟨b2, o2, rfl, h2⟩ := (HB.out.below HBW.out).el k hlt
      go_wp2_with fail
      go_quiet (fail)
      go_wp2
      go_roundw
      case rel => exact ⟨k + 1, by go_num, by omega, belowN HBW.out _⟩
      case measure => simp [intOf]; omega
    · go_wp2_with fail
      go_ret
      exact ⟨rfl, HBB.out.trans (HBW.out.mono HBB.out.size)⟩

/-- **ref01.Same** of one number twice. -/
theorem same_num {u v : Value} {n : Nat} {w : World} (hu : Num w u n) (hv : Num w v n) :
    Calls Tryd.prog 30 #[u, v] w fun e W' => e = .returned (.bool true) ∧ Below w.heap.size w W' := by
  obtain ⟨a, ca, rfl, ha⟩ := hu
  obtain ⟨b, cb, rfl, hb⟩ := hv
  exact same_any a b (M.dig n) ca cb w ha hb

theorem tmod_neg {n : Int} {m : Nat} (hm : 0 < m) (h : n.tmod (m : Int) < 0) : n.tmod (m : Int) + (m : Int) = n % (m : Int) := by
  rw [Int.tmod_eq_emod] at h ⊢
  split at h
  · have := Int.emod_nonneg n (b := (m : Int)) (by omega); omega
  · rename_i hh; rw [if_neg hh]; simp
theorem tmod_pos {n : Int} {m : Nat} (hm : 0 < m) (h : 0 ≤ n.tmod (m : Int)) : n.tmod (m : Int) = n % (m : Int) := by
  rw [Int.tmod_eq_emod] at h ⊢
  split at h
  · rename_i hh; rw [if_pos hh]; simp
  · have := Int.emod_lt_of_pos n (b := (m : Int)) (by omega); simp at h; omega

set_option maxHeartbeats 400000 in
/-- **made.Mod** -/
theorem mod_any (n : Int) (m : Nat) (w : World) (hm : 0 < m) (hm2 : m ≤ 4611686018427387904) :
    Calls Tryd.prog 45 #[.int .i64 n, .int .i64 (m : Int)] w fun e W' => e = .returned (.int .i64 (n % (m : Int))) ∧ W' = w := by
  go_enter Tryd.func45, Tryd.ntmps45
  go_wp2
  · have h : n.tmod (m : Int) < 0 := by assumption
    go_ret
    refine ⟨?_, rfl⟩
    have e := tmod_neg hm h
    have h1 := Int.emod_nonneg n (b := (m : Int)) (by omega)
    have h2 := Int.emod_lt_of_pos n (b := (m : Int)) (by omega)
    rw [← e] at h1 h2
    have h3 : wrap64 (n.tmod (m : Int) + (m : Int)) = n.tmod (m : Int) + (m : Int) := IntWalk.wrap64_in _ ⟨by omega, by omega⟩
    first
      | (rw [← e]; rfl)
      | (show Ending.returned (.int .i64 (wrap64 _)) = _; rw [h3, e])
  · have h : 0 ≤ n.tmod (m : Int) := by assumption
    go_ret
    refine ⟨?_, rfl⟩
    have e := tmod_pos hm h
    show Ending.returned (.int .i64 _) = _
    rw [e]
end Go.Proofs.YtamniclnhenmgaaDoor
