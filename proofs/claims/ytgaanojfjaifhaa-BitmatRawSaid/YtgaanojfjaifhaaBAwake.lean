/- law05.awake. -/
import Derived.Test.YtgaanojfjaifhaaBMath4
namespace Go.Proofs.Ytgaanojfjaifhaa.B
open Go Go.RowKit Go.Shelf

/-- A slice that is written out. -/
theorem row_two (w : World) (c d : V) (t : TypeId) : Row (w.alloc (.cells #[.int .u64 (c.toNat : Int), .int .u64 (d.toNat : Int)] t)) (some ⟨w.heap.size, 0, none⟩) [c, d] 2 := by
  refine ⟨Nat.le_refl _, by omega, fun j hj => ⟨w.heap.size, 0, rfl, ?_⟩⟩
  have hb : (w.alloc (.cells #[.int .u64 (c.toNat : Int), .int .u64 (d.toNat : Int)] t)).heap[w.heap.size]? = some (.cells #[.int .u64 (c.toNat : Int), .int .u64 (d.toNat : Int)] t) := Array.getElem?_push_size
  rw [cell_of_row _ _ _ _ _ _ hb]
  match j, hj with
  | 0, _ => rfl
  | 1, _ => rfl
theorem row_three (w : World) (c d e : V) (t : TypeId) : Row (w.alloc (.cells #[.int .u64 (c.toNat : Int), .int .u64 (d.toNat : Int), .int .u64 (e.toNat : Int)] t)) (some ⟨w.heap.size, 0, none⟩) [c, d, e] 3 := by
  refine ⟨Nat.le_refl _, by omega, fun j hj => ⟨w.heap.size, 0, rfl, ?_⟩⟩
  have hb : (w.alloc (.cells #[.int .u64 (c.toNat : Int), .int .u64 (d.toNat : Int), .int .u64 (e.toNat : Int)] t)).heap[w.heap.size]? = some (.cells #[.int .u64 (c.toNat : Int), .int .u64 (d.toNat : Int), .int .u64 (e.toNat : Int)] t) := Array.getElem?_push_size
  rw [cell_of_row _ _ _ _ _ _ hb]
  match j, hj with
  | 0, _ => rfl
  | 1, _ => rfl
  | 2, _ => rfl

def aw2 : List V := [3#64, 2#64]
def aw3 : List V := [1#64, 2#64, 3#64]
theorem aw_inv : invE 2 aw2 = 0 ∧ invR 2 aw2 = aw2 ∧ invC 2 aw2 = 2 := by decide +kernel
theorem aw_rank : rankN 2 aw3 = 2 := by decide +kernel

set_option maxRecDepth 100000 in
set_option maxHeartbeats 1000000 in
theorem awake_yes (w : World) : Calls Try.prog 5 #[] w fun e W => e = .returned (.bool true) ∧ Below w.heap.size w W := by
  have h1 := row_two w 3#64 2#64 25
  have hb1 : Below w.heap.size w (w.alloc (.cells #[.int .u64 ((3#64 : V).toNat : Int), .int .u64 ((2#64 : V).toNat : Int)] 25)) := (Below.refl _ w).alloc (Nat.le_refl _) _
  rw [show ((3#64 : V).toNat : Int) = 3 from rfl, show ((2#64 : V).toNat : Int) = 2 from rfl] at h1 hb1
  obtain ⟨w1, hw1⟩ : ∃ w1, w.alloc (.cells #[.int .u64 3, .int .u64 2] 25) = w1 := ⟨_, rfl⟩
  rw [hw1] at h1 hb1
  have hx := MBox.new w1 2 (some ⟨w.heap.size, 0, none⟩) 2 2 24
  have hr2 := h1.alloc (.cells #[.int .i64 2, .slice (some ⟨w.heap.size, 0, none⟩) 2 2] 24)
  have hb2 := hb1.alloc hb1.size (.cells #[.int .i64 2, .slice (some ⟨w.heap.size, 0, none⟩) 2 2] 24)
  obtain ⟨w2, hw2⟩ : ∃ w2, w1.alloc (.cells #[.int .i64 2, .slice (some ⟨w.heap.size, 0, none⟩) 2 2] 24) = w2 := ⟨_, rfl⟩
  rw [hw2] at hx hr2 hb2
  have a0 := hx.c0
  have a1 := hx.c1
  have hi := inverse_any 2 (some ⟨w.heap.size, 0, none⟩) 2 aw2 w2 hr2
  rw [aw_inv.1, aw_inv.2.1, aw_inv.2.2] at hi
  have HI := Lib.hid (show Calls Try.prog 15 #[.agg #[.int .i64 2, .slice (some ⟨w.heap.size, 0, none⟩) 2 2]] w2 _ from hi)
  have z0 := MBox.new w1 0 none 0 0 24
  have y0 := z0.c0
  have y1 := z0.c1
  have y2 := z0.f0
  have y3 := z0.f1
  have HB2 := Lib.hid hb2
  clear h1 hb1 hx hr2 hb2 hi z0
  go_enter Try.func5, Try.ntmps5
  go_wp2_with fail
  refine HI.out.mono ?_
  rintro e w3 ⟨⟨v, rfl, a', cap, rfl, hr, _⟩, hb3⟩
  have HB3 := Lib.hid (HB2.out.trans (hb3.mono HB2.out.size))
  have e0 : aw2.length = 2 := rfl
  rw [e0]
  have HR := Lib.hid hr
  clear hr hb3 e0 a0 a1 y0 y1 y2 y3
  have hx3 := MBox.new w3 2 a' 2 cap 24
  obtain ⟨w4, hw4⟩ : ∃ w4, w3.alloc (.cells #[.int .i64 2, .slice a' 2 cap] 24) = w4 := ⟨_, rfl⟩
  have hr4 := HR.out.alloc (.cells #[.int .i64 2, .slice a' 2 cap] 24)
  have hb4 := HB3.out.alloc HB3.out.size (.cells #[.int .i64 2, .slice a' 2 cap] 24)
  rw [hw4] at hx3 hr4 hb4
  have hx5 := hx3.alloc (.cells #[.int .u64 ((1#64 : V).toNat : Int), .int .u64 ((2#64 : V).toNat : Int), .int .u64 ((3#64 : V).toNat : Int)] 25)
  have hr5 := hr4.alloc (.cells #[.int .u64 ((1#64 : V).toNat : Int), .int .u64 ((2#64 : V).toNat : Int), .int .u64 ((3#64 : V).toNat : Int)] 25)
  have hb5 := hb4.alloc hb4.size (.cells #[.int .u64 ((1#64 : V).toNat : Int), .int .u64 ((2#64 : V).toNat : Int), .int .u64 ((3#64 : V).toNat : Int)] 25)
  have hr3 := row_three w4 1#64 2#64 3#64 25
  rw [show ((1#64 : V).toNat : Int) = 1 from rfl, show ((2#64 : V).toNat : Int) = 2 from rfl, show ((3#64 : V).toNat : Int) = 3 from rfl] at hx5 hr5 hb5 hr3
  obtain ⟨w5, hw5⟩ : ∃ w5, w4.alloc (.cells #[.int .u64 1, .int .u64 2, .int .u64 3] 25) = w5 := ⟨_, rfl⟩
  rw [hw5] at hx5 hr5 hb5 hr3
  have hk := rank_any 2 _ 3 aw3 w5 hr3
  rw [aw_rank] at hk
  have HK := Lib.hid (show Calls Try.prog 16 #[.agg #[.int .i64 2, .slice (some ⟨w4.heap.size, 0, none⟩) 3 3]] w5 _ from hk)
  have HX5 := Lib.hid hx5
  have HR5 := Lib.hid hr5
  have HB5 := Lib.hid hb5
  have z0 := MBox.new w3 0 none 0 0 24
  have y0 := z0.c0
  have y1 := z0.c1
  have y2 := z0.f0
  have y3 := z0.f1
  clear hx3 hr4 hb4 hx5 hr5 hb5 hr3 hk z0
  go_wp2_with fail
  refine HK.out.mono ?_
  rintro e w6 ⟨rfl, hb6⟩
  have h6 := HX5.out.below hb6
  have c1 := h6.c1
  have hr6 := HR5.out.below hb6
  obtain ⟨g, o, rfl, q0⟩ := hr6.elV 0 (by decide)
  obtain ⟨_, _, e1, q1⟩ := hr6.elV 1 (by decide)
  cases e1
  have p0 : w6.cell? ⟨g, o, none⟩ = some (.int .u64 3) := q0
  have p1 : w6.cell? ⟨g, o + 1, none⟩ = some (.int .u64 2) := q1
  have hroom : 2 ≤ cap := hr6.room
  have hmost := hr6.most
  have HB6 := Lib.hid (HB5.out.trans (hb6.mono HB5.out.size))
  clear q0 q1 hr6 h6 hb6 y0 y1 y2 y3
  go_wp2_with fail
  go_ret
  exact ⟨rfl, HB6.out⟩
end Go.Proofs.Ytgaanojfjaifhaa.B
