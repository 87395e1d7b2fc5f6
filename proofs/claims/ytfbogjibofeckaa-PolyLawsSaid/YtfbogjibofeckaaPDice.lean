/- The dice of the statements: made.Light, Roll, Dice.Next, Bytes, Poly. -/
import Derived.Test.YtfbogjibofeckaaPDer
import Derived.Test.YtfbogjibofeckaaPOps3
namespace Go.Proofs.Ytfbogjibofeckaa.IN
def el (zs : List Int) (k : Nat) : Int := zs[k]?.getD 0
end Go.Proofs.Ytfbogjibofeckaa.IN
namespace Go.Proofs.Ytfbogjibofeckaa.P
open Go Go.RowKit Go.Shelf

/-- The slice at a, of capacity cap, holds the ints zs. -/
structure IRow (w : World) (a : Option Addr) (zs : List Int) (cap : Nat) : Prop where
  room : zs.length ≤ cap
  most : cap ≤ 9223372036854775807
  el : ∀ j, j < zs.length → ∃ b off, a = some ⟨b, off, none⟩ ∧ w.cell? ⟨b, off + j, none⟩ = some (.int .i64 (IN.el zs j))
theorem IRow.below {w w' : World} {a : Option Addr} {zs : List Int} {cap : Nat} (h : IRow w a zs cap) (hb : Below w.heap.size w w') : IRow w' a zs cap :=
  ⟨h.room, h.most, fun j hj => by
    obtain ⟨b, off, e, hc⟩ := h.el j hj
    exact ⟨b, off, e, (hb.cell (p := ⟨b, off + j, none⟩) (lt_of_cell hc)).trans hc⟩⟩
theorem IRow.drewN {w : World} {a : Option Addr} {zs : List Int} {cap : Nat} (h : IRow w a zs cap) (n : Nat) : IRow (w.drewN n) a zs cap := ⟨h.room, h.most, h.el⟩
theorem IRow.alloc {w : World} {a : Option Addr} {zs : List Int} {cap : Nat} (h : IRow w a zs cap) (o : Obj) : IRow (w.alloc o) a zs cap :=
  h.below ((Below.refl _ w).alloc (Nat.le_refl _) _)
theorem grown_setCell {w W : World} {row : Option Nat} (h : w.grownBy W row) {a : Addr} (u : Value) (ha : w.heap.size ≤ a.block ∨ row = some a.block) : w.grownBy (W.setCell a u) row := by
  refine ⟨h.os, h.tape, h.output, by rw [show (W.setCell a u).heap.size = W.heap.size by simp [World.setCell]]; exact h.size, fun k hk hne => ?_⟩
  refine (Below.heap_setCell W a u k ?_).trans (h.block k hk hne)
  rintro rfl
  rcases ha with h | h
  · omega
  · exact hne h.symm
theorem mod_nat (x : Int) (n : Nat) (hn : 0 < n) : ∃ r : Nat, x % (n : Int) = (r : Int) ∧ r < n := by
  have h1 := Int.emod_nonneg x (b := (n : Int)) (by omega)
  have h2 := Int.emod_lt_of_pos x (b := (n : Int)) (by omega)
  exact ⟨(x % (n : Int)).toNat, by omega, by omega⟩

/-- The dice in block dp: the numbers ts, k of which have been given out. -/
structure Dice (W : World) (dp : Nat) (a : Option Addr) (cap : Nat) (ts : List Int) (k : Nat) : Prop where
  list : W.cell? ⟨dp, 0, none⟩ = some (.slice a ts.length cap)
  at' : W.cell? ⟨dp, 1, none⟩ = some (.int .i64 (k : Int))
  free : W.frozen? ⟨dp, 1, none⟩ = false
  row : IRow W a ts cap
  least : k ≤ ts.length
  few : ts.length ≤ 400
  other : ∀ b off, a = some ⟨b, off, none⟩ → 0 < ts.length → b ≠ dp

theorem Dice.below {W W' : World} {dp : Nat} {a : Option Addr} {cap : Nat} {ts : List Int} {k : Nat} (h : Dice W dp a cap ts k) (hb : Below W.heap.size W W') : Dice W' dp a cap ts k :=
  ⟨(hb.cell (p := ⟨dp, 0, none⟩) (lt_of_cell h.list)).trans h.list, (hb.cell (p := ⟨dp, 1, none⟩) (lt_of_cell h.at')).trans h.at', (hb.frozen (p := ⟨dp, 1, none⟩) (lt_of_cell h.at')).trans h.free, h.row.below hb, h.least, h.few, h.other⟩
theorem Dice.lt {W : World} {dp : Nat} {a : Option Addr} {cap : Nat} {ts : List Int} {k : Nat} (h : Dice W dp a cap ts k) : dp < W.heap.size := lt_of_cell h.list
theorem Dice.alloc {W : World} {dp : Nat} {a : Option Addr} {cap : Nat} {ts : List Int} {k : Nat} (h : Dice W dp a cap ts k) (o : Obj) : Dice (W.alloc o) dp a cap ts k :=
  h.below ((Below.refl _ W).alloc (Nat.le_refl _) _)
theorem Dice.drewN {W : World} {dp : Nat} {a : Option Addr} {cap : Nat} {ts : List Int} {k : Nat} (h : Dice W dp a cap ts k) (n : Nat) : Dice (W.drewN n) dp a cap ts k :=
  ⟨h.list, h.at', h.free, h.row.drewN n, h.least, h.few, h.other⟩
/-- One number more has been given out. -/
theorem Dice.next {W : World} {dp : Nat} {a : Option Addr} {cap : Nat} {ts : List Int} {k : Nat} (h : Dice W dp a cap ts k) (hk : k < ts.length) : Dice (W.setCell ⟨dp, 1, none⟩ (.int .i64 ((k : Int) + 1))) dp a cap ts (k + 1) :=
  ⟨(World.cell?_setCell_other _ _ _ _ (by intro e; cases e)).trans h.list, World.cell?_setCell_same' _ _ _ (by rw [h.at']; rfl), (World.frozen?_setCell _ _ _ _).trans h.free,
    ⟨h.row.room, h.row.most, fun j hj => by
      obtain ⟨b, off, e, hc⟩ := h.row.el j hj
      exact ⟨b, off, e, (cell_other _ (by intro e2; exact h.other b off e (by omega) e2)).trans hc⟩⟩, by omega, h.few, h.other⟩


/-- What Next gives: a number below n; only the dice have turned. -/
def NextPost (w : World) (dp : Nat) (a : Option Addr) (cap : Nat) (ts : List Int) (n : Nat) (e : Ending) (W : World) : Prop :=
  ∃ (r k' : Nat), r < n ∧ e = .returned (.int .i64 (r : Int)) ∧ Dice W dp a cap ts k' ∧ w.grownBy W (some dp)

set_option maxRecDepth 100000 in
set_option maxHeartbeats 1000000 in
theorem next_any (w : World) (dp : Nat) (a : Option Addr) (cap : Nat) (ts : List Int) (k n : Nat) (hn : 0 < n) (hn2 : n ≤ 1000000) (hD : Dice w dp a cap ts k) :
    Calls Try.prog 19 #[.pointer (some ⟨dp, 0, none⟩), .int .i64 (n : Int)] w (NextPost w dp a cap ts n) := by
  have c0 := hD.list
  have c1 := hD.at'
  have f1 := hD.free
  have hfew := hD.few
  have hleast := hD.least
  have HD := Lib.hid hD
  clear hD
  by_cases hk : k < ts.length
  · obtain ⟨b, off, rfl, hc⟩ := HD.out.row.el k hk
    have hne := HD.out.other b off rfl (by omega)
    have HNX := Lib.hid (HD.out.next hk)
    have hcap := HD.out.row.room
    have hmost := HD.out.row.most
    have hmod := fun W : World => (mod_any (IN.el ts k) (n : Int) (by omega) (by omega) W).mono fun e W' h => And.intro h.1 h.2.symm
    have HMOD := Lib.hid hmod
    clear hmod
    go_enter Try.func19, Try.ntmps19
    go_wp2_with fail
    go_quiet (fail)
    go_wp2_with fail
    go_quiet ((go_at_call 44; exact Calls.quiet_of_same (HMOD.out _)))
    go_wp2_with fail
    go_ret
    obtain ⟨r, hr, hrn⟩ := mod_nat (IN.el ts k) n hn
    exact ⟨r, k + 1, hrn, congrArg (fun z => Ending.returned (.int .i64 z)) hr, (HD.out.drewN _).next hk |>.drewN _, grown_drewN (grown_setCell (grown_drewN (World.grownBy.refl w _) _) _ (.inr rfl)) _⟩
  · go_enter Try.func19, Try.ntmps19
    go_wp2_with fail
    go_quiet (fail)
    go_wp2_with fail
    go_ret
    exact ⟨0, k, hn, rfl, HD.out.drewN _, grown_drewN (World.grownBy.refl w _) _⟩

end Go.Proofs.Ytfbogjibofeckaa.P
