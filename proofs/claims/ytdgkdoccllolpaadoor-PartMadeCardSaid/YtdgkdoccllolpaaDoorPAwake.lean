/- memfaultlaw09.awake. -/
import Derived.Test.YtdgkdoccllolpaaDoorPCovered
namespace Go.Proofs.YtdgkdoccllolpaaDoor.P
open Go Go.RowKit Go.Shelf
open G
def xA : Nat → Int
  | 4 => 1
  | 5 => 1
  | _ => 0
def yA : Nat → Int
  | 4 => 1
  | _ => 0
def fA : Nat → Int
  | 5 => 1
  | _ => 0
theorem cvA : cvF xA 3 fA (szN xA) = [1, 3] := by decide +kernel
theorem szA : szN xA = 4 := by decide +kernel
theorem ixA : idxV xA yA = 2 ∧ idxE xA yA = 0 := by decide +kernel
set_option maxRecDepth 100000 in
set_option maxHeartbeats 1000000 in
theorem awake_any (W : World) (hT : Tab W) :
    Calls Tryd.prog 8 #[] W fun e W' => e = .returned (.bool true) ∧ Below W.heap.size W W' := by
  have HC := Lib.hid (fun W hT => (show Calls Tryd.prog 23 #[.agg #[.int .i64 0, .int .i64 0, .int .i64 0, .int .i64 0, .int .i64 1, .int .i64 1], .agg #[.int .i64 3, .int .i64 0, .int .i64 0, .int .i64 0, .int .i64 0, .int .i64 0, .int .i64 1, .int .i64 0, .int .u8 1, .int .u8 0, .bool false]] W fun e W' => ∃ a c, e = .returned (.slice a 2 c) ∧ G.Own W' W.heap.size (.slice a 2 c) [1, 3] ∧ Below W.heap.size W W' from by
    have h := covered_any xA 3 fA 0 1 0 false W hT
    rw [cvA] at h
    exact h))
  have HI := Lib.hid (fun W => (show Calls Tryd.prog 21 #[.agg #[.int .i64 0, .int .i64 0, .int .i64 0, .int .i64 0, .int .i64 1, .int .i64 1], .agg #[.int .i64 0, .int .i64 0, .int .i64 0, .int .i64 0, .int .i64 1, .int .i64 0]] W fun e W' => e = .returned (.tuple #[.int .i64 2, .int .i64 0]) ∧ Below W.heap.size W W' from by
    have h := index_any xA yA W
    rw [ixA.1, ixA.2] at h
    exact h))
  have HS := Lib.hid (fun W => (show Calls Tryd.prog 19 #[.agg #[.int .i64 0, .int .i64 0, .int .i64 0, .int .i64 0, .int .i64 1, .int .i64 1]] W fun e W' => e = .returned (.int .i64 4) ∧ Below W.heap.size W W' from by
    have h := size_any xA W
    rw [szA] at h
    exact h))
  have hs := Six.new W 23 xA
  have hb0 := (Below.refl _ W).alloc (Nat.le_refl _) (.cells #[.int .i64 0, .int .i64 0, .int .i64 0, .int .i64 0, .int .i64 1, .int .i64 1] 23)
  have ht := hT.below hb0
  obtain ⟨w0, hw0⟩ : ∃ w0, W.alloc (.cells #[.int .i64 0, .int .i64 0, .int .i64 0, .int .i64 0, .int .i64 1, .int .i64 1] 23) = w0 := ⟨_, rfl⟩
  have hs' : Six (W.alloc (.cells #[.int .i64 0, .int .i64 0, .int .i64 0, .int .i64 0, .int .i64 1, .int .i64 1] 23)) W.heap.size 23 xA := hs
  rw [hw0] at hs' hb0 ht
  have HSX := Lib.hid hs'
  have HB0 := Lib.hid hb0
  have HT := Lib.hid ht
  obtain ⟨c0, c1, c2, c3, c4, c5⟩ : w0.cell? ⟨W.heap.size, 0, none⟩ = some (.int .i64 0) ∧ w0.cell? ⟨W.heap.size, 1, none⟩ = some (.int .i64 0) ∧ w0.cell? ⟨W.heap.size, 2, none⟩ = some (.int .i64 0) ∧ w0.cell? ⟨W.heap.size, 3, none⟩ = some (.int .i64 0) ∧ w0.cell? ⟨W.heap.size, 4, none⟩ = some (.int .i64 1) ∧ w0.cell? ⟨W.heap.size, 5, none⟩ = some (.int .i64 1) := hs'.all
  clear hs hs' hb0 ht hT
  go_enter Tryd.func8, Tryd.ntmps8
  go_wp2_with fail
  refine (HC.out _ HT.out).mono ?_
  rintro e w1 ⟨a, c, rfl, ho, hb1⟩
  have HO := Lib.hid ho
  have HB1 := Lib.hid (HB0.out.trans (hb1.mono HB0.out.size))
  have hs1 := HSX.out.below hb1
  have HS1 := Lib.hid hs1
  clear c0 c1 c2 c3 c4 c5
  obtain ⟨c0, c1, c2, c3, c4, c5⟩ : w1.cell? ⟨W.heap.size, 0, none⟩ = some (.int .i64 0) ∧ w1.cell? ⟨W.heap.size, 1, none⟩ = some (.int .i64 0) ∧ w1.cell? ⟨W.heap.size, 2, none⟩ = some (.int .i64 0) ∧ w1.cell? ⟨W.heap.size, 3, none⟩ = some (.int .i64 0) ∧ w1.cell? ⟨W.heap.size, 4, none⟩ = some (.int .i64 1) ∧ w1.cell? ⟨W.heap.size, 5, none⟩ = some (.int .i64 1) := hs1.all
  clear ho hb1 hs1 HT HSX HB0
  go_wp2_with fail
  refine (HI.out _).mono ?_
  rintro e w2 ⟨rfl, hb2⟩
  have hs2 := HS1.out.below hb2
  have ho2 := HO.out.below hb2
  have HB2 := Lib.hid (HB1.out.trans (hb2.mono HB1.out.size))
  clear c0 c1 c2 c3 c4 c5
  obtain ⟨c0, c1, c2, c3, c4, c5⟩ : w2.cell? ⟨W.heap.size, 0, none⟩ = some (.int .i64 0) ∧ w2.cell? ⟨W.heap.size, 1, none⟩ = some (.int .i64 0) ∧ w2.cell? ⟨W.heap.size, 2, none⟩ = some (.int .i64 0) ∧ w2.cell? ⟨W.heap.size, 3, none⟩ = some (.int .i64 0) ∧ w2.cell? ⟨W.heap.size, 4, none⟩ = some (.int .i64 1) ∧ w2.cell? ⟨W.heap.size, 5, none⟩ = some (.int .i64 1) := hs2.all
  obtain ⟨av, cv, ev, hr⟩ := ho2.row
  cases ev
  obtain ⟨b1, o1, e1, x1⟩ := hr.el 0 (by decide)
  obtain ⟨b2, o2, e2, x2⟩ := hr.el 1 (by decide)
  subst e1
  cases e2
  have hcap := hr.room
  have hmost := hr.most
  have x1' : w2.cell? ⟨b1, o1, none⟩ = some (.int .i64 1) := x1
  have x2' : w2.cell? ⟨b1, o1 + 1, none⟩ = some (.int .i64 3) := x2
  clear hs2 ho2 hr hb2 HO HB1 HS1 x1 x2
  go_wp2_with fail
  refine (HS.out _).mono ?_
  rintro e w3 ⟨rfl, hb3⟩
  have HB3 := Lib.hid (HB2.out.trans (hb3.mono HB2.out.size))
  clear hb3
  go_wp2_with fail
  go_ret
  exact ⟨rfl, HB3.out⟩
end Go.Proofs.YtdgkdoccllolpaaDoor.P
