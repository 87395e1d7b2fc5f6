/- The dice of the statements: made.Mod, Light, Roll, Dice.Next, One. -/
import Derived.Test.YtjemijjhplajaaaGRow
namespace Go.Proofs.Ytjemijjhplajaaa.IN
def el (zs : List Int) (k : Nat) : Int := zs[k]?.getD 0
end Go.Proofs.Ytjemijjhplajaaa.IN
namespace Go.Proofs.Ytjemijjhplajaaa.G
open Go Go.RowKit Go.Shelf

theorem mod_any (n m : Int) (hm : 1 ≤ m) (hm2 : m ≤ 1000000) (w : World) :
    Calls Try.prog 14 #[.int .i64 n, .int .i64 m] w fun e w' => e = .returned (.int .i64 (n % m)) ∧ w = w' := by
  have hs : n.tmod m < 0 → n.tmod m + m = n % m ∧ -1000000 < n.tmod m := by
    intro h
    rcases Int.le_total 0 n with hn | hn
    · rw [Int.tmod_eq_emod_of_nonneg hn] at h
      have := Int.emod_nonneg n (by omega : m ≠ 0)
      omega
    · have e := Int.neg_tmod (a := -n) (b := m)
      rw [Int.neg_neg, Int.tmod_eq_emod_of_nonneg (by omega : 0 ≤ -n)] at e
      have h1 := Int.emod_lt_of_pos (-n) (by omega : 0 < m)
      have h2 := Int.emod_nonneg (-n) (by omega : m ≠ 0)
      refine ⟨?_, by omega⟩
      have h3 : n % m = (n.tmod m + m) % m := by
        rw [e, Int.add_emod_right]
        have h4 : (-((-n) % m)) % m = (-(-n)) % m := by
          have := Int.emod_add_mul_ediv (-n) m
          have h5 : -((-n) % m) = -(-n) + m * ((-n) / m) := by omega
          rw [h5, Int.add_mul_emod_self_left]
        rw [h4, Int.neg_neg]
      rw [h3, Int.emod_eq_of_lt (by omega) (by omega)]
  have hp : ¬ n.tmod m < 0 → n.tmod m = n % m := by
    intro h
    rcases Int.le_total 0 n with hn | hn
    · exact Int.tmod_eq_emod_of_nonneg hn
    · have e := Int.neg_tmod (a := -n) (b := m)
      rw [Int.neg_neg, Int.tmod_eq_emod_of_nonneg (by omega : 0 ≤ -n)] at e
      have h2 := Int.emod_nonneg (-n) (by omega : m ≠ 0)
      have h0 : (-n) % m = 0 := by omega
      have h6 : m ∣ -n := Int.dvd_of_emod_eq_zero h0
      rw [e, h0, Int.emod_eq_zero_of_dvd (Int.dvd_neg.1 h6)]; rfl
  have hm0 : ¬ m < 1 := by omega
  have hz : m ≠ 0 := by omega
  by_cases h : n.tmod m < 0
  · have hb := (hs h).2
    have HR := Lib.hid (hs h).1
    clear hs hp
    go_enter Try.func14, Try.ntmps14
    go_wp2_with fail
    go_ret
    exact ⟨ret_int HR.out, rfl⟩
  · have HR := Lib.hid (hp h)
    have h' : 0 ≤ n.tmod m := by omega
    clear hs hp
    go_enter Try.func14, Try.ntmps14
    go_wp2_with fail
    go_ret
    exact ⟨ret_int HR.out, rfl⟩

/-- The slice at a, of capacity cap, holds the ints zs. -/
structure IRow (w : World) (a : Option Addr) (zs : List Int) (cap : Nat) : Prop where
  room : zs.length ≤ cap
  most : cap ≤ 9223372036854775807
  el : ∀ j, j < zs.length → ∃ b off, a = some ⟨b, off, none⟩ ∧ w.cell? ⟨b, off + j, none⟩ = some (.int .i64 (IN.el zs j))
theorem IRow.below {w w' : World} {a : Option Addr} {zs : List Int} {cap : Nat} (h : IRow w a zs cap) (hb : Below w.heap.size w w') : IRow w' a zs cap :=
  ⟨h.room, h.most, fun j hj => by
    obtain ⟨b, off, e, hc⟩ := h.el j hj
    exact ⟨b, off, e, (hb.cell (p := ⟨b, off + j, none⟩) (lt_of_cell hc)).trans hc⟩⟩
theorem IRow.drewN {w : World} {a : Option Addr} {zs : List Int} {cap : Nat} (h : IRow w a zs cap) (n : Nat) : IRow (w.drewN n) a zs cap := ⟨h.room, h.most, h.el⟩
theorem IRow.alloc {w : World} {a : Option Addr} {zs : List Int} {cap : Nat} (h : IRow w a zs cap) (o : Obj) : IRow (w.alloc o) a zs cap :=
  h.below ((Below.refl _ w).alloc (Nat.le_refl _) _)
theorem mod_nat (x : Int) (n : Nat) (hn : 0 < n) : ∃ r : Nat, x % (n : Int) = (r : Int) ∧ r < n := by
  have h1 := Int.emod_nonneg x (b := (n : Int)) (by omega)
  have h2 := Int.emod_lt_of_pos x (b := (n : Int)) (by omega)
  exact ⟨(x % (n : Int)).toNat, by omega, by omega⟩

/-- The dice in block dp: the numbers ts, k of which have been given out. -/
structure Dice (W : World) (dp : Nat) (a : Option Addr) (cap : Nat) (ts : List Int) (k : Nat) : Prop where
  list : W.cell? ⟨dp, 0, none⟩ = some (.slice a ts.length cap)
  at' : W.cell? ⟨dp, 1, none⟩ = some (.int .i64 (k : Int))
  free : W.frozen? ⟨dp, 1, none⟩ = false
  row : IRow W a ts cap
  least : k ≤ ts.length
  few : ts.length ≤ 400
  other : ∀ b off, a = some ⟨b, off, none⟩ → 0 < ts.length → b ≠ dp

theorem Dice.below {W W' : World} {dp : Nat} {a : Option Addr} {cap : Nat} {ts : List Int} {k : Nat} (h : Dice W dp a cap ts k) (hb : Below W.heap.size W W') : Dice W' dp a cap ts k :=
  ⟨(hb.cell (p := ⟨dp, 0, none⟩) (lt_of_cell h.list)).trans h.list, (hb.cell (p := ⟨dp, 1, none⟩) (lt_of_cell h.at')).trans h.at', (hb.frozen (p := ⟨dp, 1, none⟩) (lt_of_cell h.at')).trans h.free, h.row.below hb, h.least, h.few, h.other⟩
theorem Dice.lt {W : World} {dp : Nat} {a : Option Addr} {cap : Nat} {ts : List Int} {k : Nat} (h : Dice W dp a cap ts k) : dp < W.heap.size := lt_of_cell h.list
theorem Dice.alloc {W : World} {dp : Nat} {a : Option Addr} {cap : Nat} {ts : List Int} {k : Nat} (h : Dice W dp a cap ts k) (o : Obj) : Dice (W.alloc o) dp a cap ts k :=
  h.below ((Below.refl _ W).alloc (Nat.le_refl _) _)
theorem Dice.drewN {W : World} {dp : Nat} {a : Option Addr} {cap : Nat} {ts : List Int} {k : Nat} (h : Dice W dp a cap ts k) (n : Nat) : Dice (W.drewN n) dp a cap ts k :=
  ⟨h.list, h.at', h.free, h.row.drewN n, h.least, h.few, h.other⟩
/-- One number more has been given out. -/
theorem Dice.next {W : World} {dp : Nat} {a : Option Addr} {cap : Nat} {ts : List Int} {k : Nat} (h : Dice W dp a cap ts k) (hk : k < ts.length) : Dice (W.setCell ⟨dp, 1, none⟩ (.int .i64 ((k : Int) + 1))) dp a cap ts (k + 1) :=
  ⟨(World.cell?_setCell_other _ _ _ _ (by intro e; cases e)).trans h.list, World.cell?_setCell_same' _ _ _ (by rw [h.at']; rfl), (World.frozen?_setCell _ _ _ _).trans h.free,
    ⟨h.row.room, h.row.most, fun j hj => by
      obtain ⟨b, off, e, hc⟩ := h.row.el j hj
      exact ⟨b, off, e, (cell_other _ (by intro e2; exact h.other b off e (by omega) e2)).trans hc⟩⟩, by omega, h.few, h.other⟩


/-- What Next gives: a number below n; only the dice have turned. -/
def NextPost (w : World) (dp : Nat) (a : Option Addr) (cap : Nat) (ts : List Int) (n : Nat) (e : Ending) (W : World) : Prop :=
  ∃ (r k' : Nat), r < n ∧ e = .returned (.int .i64 (r : Int)) ∧ Dice W dp a cap ts k' ∧ w.grownBy W (some dp)

set_option maxRecDepth 100000 in
set_option maxHeartbeats 1000000 in
theorem next_any (w : World) (dp : Nat) (a : Option Addr) (cap : Nat) (ts : List Int) (k n : Nat) (hn : 0 < n) (hn2 : n ≤ 1000000) (hD : Dice w dp a cap ts k) :
    Calls Try.prog 13 #[.pointer (some ⟨dp, 0, none⟩), .int .i64 (n : Int)] w (NextPost w dp a cap ts n) := by
  have c0 := hD.list
  have c1 := hD.at'
  have f1 := hD.free
  have hfew := hD.few
  have hleast := hD.least
  have HD := Lib.hid hD
  clear hD
  by_cases hk : k < ts.length
  · obtain ⟨b, off, rfl, hc⟩ := HD.out.row.el k hk
    have hne := HD.out.other b off rfl (by omega)
    have HNX := Lib.hid (HD.out.next hk)
    have hcap := HD.out.row.room
    have hmost := HD.out.row.most
    have hmod := fun W : World => (mod_any (IN.el ts k) (n : Int) (by omega) (by omega) W).mono fun e W' h => And.intro h.1 h.2.symm
    have HMOD := Lib.hid hmod
    clear hmod
    go_enter Try.func13, Try.ntmps13
    go_wp2_with fail
    go_quiet (fail)
    go_wp2_with fail
    go_quiet ((go_at_call 14; exact Calls.quiet_of_same (HMOD.out _)))
    go_wp2_with fail
    go_ret
    obtain ⟨r, hr, hrn⟩ := mod_nat (IN.el ts k) n hn
    exact ⟨r, k + 1, hrn, congrArg (fun z => Ending.returned (.int .i64 z)) hr, (HD.out.drewN _).next hk |>.drewN _, grown_drewN (grown_setCell (grown_drewN (World.grownBy.refl w _) _) _ (.inr rfl)) _⟩
  · go_enter Try.func13, Try.ntmps13
    go_wp2_with fail
    go_quiet (fail)
    go_wp2_with fail
    go_ret
    exact ⟨0, k, hn, rfl, HD.out.drewN _, grown_drewN (World.grownBy.refl w _) _⟩

theorem light_any (a : Option Addr) (n cap : Nat) (w : World) :
    Calls Try.prog 4 #[.slice a n cap] w fun e W' => e = .returned (.bool (decide ((n : Int) ≤ 400))) ∧ w = W' := by
  go_enter Try.func4, Try.ntmps4
  go_wp2_with fail
  go_ret
  exact ⟨rfl, rfl⟩
theorem roll_dice {a : Option Addr} {cap : Nat} {ts : List Int} {w : World} (hr : IRow w a ts cap) (hf : ts.length ≤ 400) (t : TypeId) : Dice (w.alloc (.cells #[.slice a ts.length cap, .int .i64 0] t)) w.heap.size a cap ts 0 := by
  have hb : (w.alloc (.cells #[.slice a ts.length cap, .int .i64 0] t)).heap[w.heap.size]? = some (.cells #[.slice a ts.length cap, .int .i64 0] t) := Array.getElem?_push_size
  refine ⟨?_, ?_, ?_, hr.alloc _, Nat.zero_le _, hf, fun b off e hl => ?_⟩
  · rw [cell_of_row _ _ 0 _ _ _ hb]; rfl
  · rw [cell_of_row _ _ 1 _ _ _ hb]; rfl
  · unfold World.frozen?; rw [hb]; rfl
  · obtain ⟨b', off', e', hc⟩ := hr.el 0 hl
    rw [e] at e'; cases e'
    have h := lt_of_cell hc
    exact Nat.ne_of_lt h
theorem roll_any (a : Option Addr) (cap : Nat) (ts : List Int) (w : World) (hr : IRow w a ts cap) (hf : ts.length ≤ 400) :
    Calls Try.prog 6 #[.slice a ts.length cap] w fun e W' => e = .returned (.pointer (some ⟨w.heap.size, 0, none⟩)) ∧ Dice W' w.heap.size a cap ts 0 ∧ Below w.heap.size w W' := by
  go_enter Try.func6, Try.ntmps6
  go_wp2_with fail
  go_ret
  refine ⟨rfl, roll_dice hr hf _, (Below.refl _ w).alloc (Nat.le_refl _) _⟩

theorem Dice.belowAt {W W' : World} {B dp : Nat} {a : Option Addr} {cap : Nat} {ts : List Int} {k : Nat} (h : Dice W dp a cap ts k) (hb : Below B W W') (hdp : dp < B) (hf : ∀ b off, a = some ⟨b, off, none⟩ → 0 < ts.length → b < B) : Dice W' dp a cap ts k :=
  ⟨(hb.cell (p := ⟨dp, 0, none⟩) hdp).trans h.list, (hb.cell (p := ⟨dp, 1, none⟩) hdp).trans h.at', (hb.frozen (p := ⟨dp, 1, none⟩) hdp).trans h.free,
    ⟨h.row.room, h.row.most, fun j hj => by
      obtain ⟨b, off, e, hc⟩ := h.row.el j hj
      exact ⟨b, off, e, (hb.cell (p := ⟨b, off + j, none⟩) (hf b off e (by omega))).trans hc⟩⟩, h.least, h.few, h.other⟩
theorem Dice.far {W : World} {dp : Nat} {a : Option Addr} {cap : Nat} {ts : List Int} {k : Nat} (h : Dice W dp a cap ts k) : ∀ b off, a = some ⟨b, off, none⟩ → 0 < ts.length → b < W.heap.size := fun b off e h0 => by
  obtain ⟨b', off', e', hc⟩ := h.row.el 0 h0
  rw [e] at e'; cases e'
  exact lt_of_cell hc
theorem grown_then {w W W' : World} {row : Option Nat} (h : w.grownBy W row) (hb : Below w.heap.size W W') : w.grownBy W' row :=
  ⟨hb.os.trans h.os, hb.tape.trans h.tape, hb.output.trans h.output, Nat.le_trans h.size hb.size, fun k hk hne => (hb.block k hk).trans (h.block k hk hne)⟩

end Go.Proofs.Ytjemijjhplajaaa.G
