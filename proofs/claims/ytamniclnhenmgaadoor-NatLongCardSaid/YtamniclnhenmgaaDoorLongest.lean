/- The walk of NatLong. -/
import Derived.Test.YtamniclnhenmgaaDoorFull
import Derived.Test.YtamniclnhenmgaaDoorPowers
import Derived.Test.YtamniclnhenmgaaDoorRefSum
import Derived.Test.YtamniclnhenmgaaDoorRefMul
import Derived.Test.YtamniclnhenmgaaDoorSameAll
import Derived.Test.YtamniclnhenmgaaDoorAwake
import Derived.Deep.DeepCutAuto
namespace Go.Proofs.YtamniclnhenmgaaDoor
open Go Go.RowKit Go.Shelf

theorem pair_here (w : World) (m n : Int) (t : TypeId) : (w.alloc (.cells #[.int .i64 m, .int .i64 n] t)).cell? ⟨w.heap.size, 0, none⟩ = some (.int .i64 m) ∧ (w.alloc (.cells #[.int .i64 m, .int .i64 n] t)).cell? ⟨w.heap.size, 1, none⟩ = some (.int .i64 n) := by
  have hb : (w.alloc (.cells #[.int .i64 m, .int .i64 n] t)).heap[w.heap.size]? = some (.cells #[.int .i64 m, .int .i64 n] t) := Array.getElem?_push_size
  constructor
  · rw [cell_of_row _ _ 0 _ _ _ hb]; rfl
  · rw [cell_of_row _ _ 1 _ _ _ hb]; rfl

/-- The result in one form: the number, or 0 with ErrLimit. -/
def fitN (n : Nat) : Nat := if (M.dig n).length ≤ 200 then n else 0
def fitE (n : Nat) : Int := if (M.dig n).length ≤ 200 then 0 else 3
def FitR (n : Nat) (e : Ending) (W : World) : Prop := ∃ v, e = .returned (.tuple #[v, .int .i64 (fitE n)]) ∧ ∃ a c, v = .agg #[.slice a (M.dig (fitN n)).length c] ∧ Row W a (M.dig (fitN n)) c
theorem NatRes.fit {n : Nat} {e : Ending} {W : World} (h : NatRes n e W) : FitR n e W := by
  unfold NatRes at h
  unfold FitR fitN fitE
  split at h
  · rename_i h1; rw [if_pos h1, if_pos h1]; exact h
  · rename_i h1; rw [if_neg h1, if_neg h1, M.dig_zero]; exact ⟨_, h, none, 0, rfl, (Own.nil W 0).rowAt⟩
theorem fit_calls {f : Nat} {args : Array Value} {w : World} {n : Nat} (h : Calls Tryd.prog f args w fun e W' => NatRes n e W' ∧ Below w.heap.size w W') : Calls Tryd.prog f args w fun e W' => FitR n e W' ∧ Below w.heap.size w W' :=
  h.mono fun _ _ h => ⟨h.1.fit, h.2⟩

/-- What stands behind the statement 'a, b := long(..), long(..)', whatever its order was. -/
def Mid (w : World) (s6 s7 : Value) (W : World) : Prop := ∃ (p q : Nat) (a : Option Addr) (ca x : Nat) (b : Option Addr) (cb y : Nat), s6 = .pointer (some ⟨p, 0, none⟩) ∧ s7 = .pointer (some ⟨q, 0, none⟩) ∧ Var W p a ca x ∧ Var W q b cb y ∧ (M.dig x).length ≤ 200 ∧ (M.dig y).length ≤ 200 ∧ Below w.heap.size w W
section
variable {w W : World} {a b : Option Addr} {ca cb x y : Nat}
theorem var_set {p n c : Nat} {s : Option Addr} (hp : W.cell? ⟨p, 0, none⟩ = some (.slice s n c)) (h : Row W a (M.dig x) ca) : Var (W.setCell ⟨p, 0, none⟩ (.slice a (M.dig x).length ca)) p a ca x :=
  ⟨World.cell?_setCell_same _ _ _ hp, h.store hp _⟩
theorem Var.other {p q n c : Nat} {s : Option Addr} (h : Var W p a ca x) (hq : W.cell? ⟨q, 0, none⟩ = some (.slice s n c)) (hne : p ≠ q) (u : Value) : Var (W.setCell ⟨q, 0, none⟩ u) p a ca x :=
  ⟨(cell_other u (show p ≠ q from hne)).trans h.cell, h.row.store hq u⟩
theorem mid_two (ha : Row W a (M.dig x) ca) (hb : Row W b (M.dig y) cb) (hx : (M.dig x).length ≤ 200) (hy : (M.dig y).length ≤ 200) (hB : Below w.heap.size w W) :
    Mid w (.pointer (some ⟨W.heap.size, 0, none⟩)) (.pointer (some ⟨W.heap.size + 1, 0, none⟩)) ((W.alloc (.cells #[.slice a (M.dig x).length ca] 24)).alloc (.cells #[.slice b (M.dig y).length cb] 24)) := by
  have h := Var.new (hb.alloc (.cells #[.slice a (M.dig x).length ca] 24))
  rw [World.size_alloc] at h
  exact ⟨_, _, a, ca, x, b, cb, y, rfl, rfl, (Var.new ha).alloc _, h, hx, hy, (hB.alloc hB.size _).alloc (by rw [World.size_alloc]; exact Nat.le_succ_of_le hB.size) _⟩
theorem mid_owt (ha : Row W a (M.dig x) ca) (hb : Row W b (M.dig y) cb) (hx : (M.dig x).length ≤ 200) (hy : (M.dig y).length ≤ 200) (hB : Below w.heap.size w W) :
    Mid w (.pointer (some ⟨W.heap.size + 1, 0, none⟩)) (.pointer (some ⟨W.heap.size, 0, none⟩)) ((W.alloc (.cells #[.slice b (M.dig y).length cb] 24)).alloc (.cells #[.slice a (M.dig x).length ca] 24)) := by
  have h := Var.new (ha.alloc (.cells #[.slice b (M.dig y).length cb] 24))
  rw [World.size_alloc] at h
  exact ⟨_, _, a, ca, x, b, cb, y, rfl, rfl, h, (Var.new hb).alloc _, hx, hy, (hB.alloc hB.size _).alloc (by rw [World.size_alloc]; exact Nat.le_succ_of_le hB.size) _⟩
theorem mid_sets {p q n c k d : Nat} {s t : Option Addr} (ha : Row W a (M.dig x) ca) (hb : Row W b (M.dig y) cb) (hx : (M.dig x).length ≤ 200) (hy : (M.dig y).length ≤ 200) (hB : Below w.heap.size w W)
    (hp : W.cell? ⟨p, 0, none⟩ = some (.slice s n c)) (hq : W.cell? ⟨q, 0, none⟩ = some (.slice t k d)) (hne : p ≠ q) (hp2 : w.heap.size ≤ p) (hq2 : w.heap.size ≤ q) :
    Mid w (.pointer (some ⟨p, 0, none⟩)) (.pointer (some ⟨q, 0, none⟩)) ((W.setCell ⟨p, 0, none⟩ (.slice a (M.dig x).length ca)).setCell ⟨q, 0, none⟩ (.slice b (M.dig y).length cb)) := by
  have hq3 := (cell_other (W := W) (p := ⟨p, 0, none⟩) (a := ⟨q, 0, none⟩) (.slice a (M.dig x).length ca) (show q ≠ p from hne.symm)).trans hq
  exact ⟨p, q, a, ca, x, b, cb, y, rfl, rfl, (var_set hp ha).other hq3 hne _, var_set hq3 (hb.store hp _), hx, hy, (hB.setCell (p := ⟨p, 0, none⟩) hp2 _).setCell (p := ⟨q, 0, none⟩) hq2 _⟩
theorem mid_late {p n c : Nat} {s : Option Addr} (ha : Row W a (M.dig x) ca) (hb : Row W b (M.dig y) cb) (hx : (M.dig x).length ≤ 200) (hy : (M.dig y).length ≤ 200) (hB : Below w.heap.size w W)
    (hp : W.cell? ⟨p, 0, none⟩ = some (.slice s n c)) (hp2 : w.heap.size ≤ p) :
    Mid w (.pointer (some ⟨p, 0, none⟩)) (.pointer (some ⟨W.heap.size, 0, none⟩)) (((W.alloc (.cells #[.slice none 0 0] 24)).setCell ⟨p, 0, none⟩ (.slice a (M.dig x).length ca)).setCell ⟨W.heap.size, 0, none⟩ (.slice b (M.dig y).length cb)) :=
  mid_sets (ha.alloc _) (hb.alloc _) hx hy (hB.alloc hB.size _) (cell_later _ hp) (cell_new _ _ _) (Nat.ne_of_lt (lt_of_cell hp)) hp2 hB.size
theorem mid_soon {q n c : Nat} {s : Option Addr} (ha : Row W a (M.dig x) ca) (hb : Row W b (M.dig y) cb) (hx : (M.dig x).length ≤ 200) (hy : (M.dig y).length ≤ 200) (hB : Below w.heap.size w W)
    (hq : W.cell? ⟨q, 0, none⟩ = some (.slice s n c)) (hq2 : w.heap.size ≤ q) :
    Mid w (.pointer (some ⟨W.heap.size, 0, none⟩)) (.pointer (some ⟨q, 0, none⟩)) ((W.alloc (.cells #[.slice a (M.dig x).length ca] 24)).setCell ⟨q, 0, none⟩ (.slice b (M.dig y).length cb)) :=
  ⟨_, q, a, ca, x, b, cb, y, rfl, rfl, (Var.new ha).other (cell_later _ hq) (Nat.ne_of_gt (lt_of_cell hq)) _, var_set (cell_later _ hq) (hb.alloc _), hx, hy, (hB.alloc hB.size _).setCell (p := ⟨q, 0, none⟩) hq2 _⟩
end

theorem unalloc {W W' : World} {row : Option Nat} {o : Obj} (h : (W.alloc o).grownBy W' row) : W.grownBy W' row :=
  ⟨h.os, h.tape, h.output, Nat.le_trans (by rw [World.size_alloc]; omega) h.size, fun k hk hne => (h.block k (by rw [World.size_alloc]; omega) hne).trans (Below.heap_alloc _ _ _ hk)⟩
theorem undrew {W W' : World} {row : Option Nat} (h : W.drew.grownBy W' row) : W.grownBy W' row := ⟨h.os, h.tape, h.output, h.size, h.block⟩
theorem led0 {W W' : World} {dp : Nat} {p : Addr} {v : Value} (hg : W.grownBy W' (some dp)) (h : W.cell? p = some v) (hne : ¬ p.block = dp) : W'.cell? p = some v :=
  hg.cell h (by intro e; cases e; exact hne rfl)
theorem ledf {W W' : World} {dp : Nat} {p : Addr} {v : Value} (hg : W.grownBy W' (some dp)) (h : W.cell? p = some v) (hf : W.frozen? p = false) (hne : ¬ p.block = dp) : W'.frozen? p = false :=
  (World.frozen?_of_block (hg.block p.block (lt_of_cell h) (by intro e; cases e; exact hne rfl))).trans hf
theorem led1 {W W' : World} {dp : Nat} {v : Value} {t : TypeId} (hg : (W.alloc (.cells #[v] t)).grownBy W' (some dp)) (hdp : dp < W.heap.size) : W'.cell? ⟨W.heap.size, 0, none⟩ = some v ∧ W'.frozen? ⟨W.heap.size, 0, none⟩ = false :=
  ⟨led0 hg (cell_new W v t) (by show ¬ W.heap.size = dp; omega), ledf hg (cell_new W v t) (frozen_new W v t) (by show ¬ W.heap.size = dp; omega)⟩
theorem led2 {W W' : World} {dp : Nat} {v u : Value} {t r : TypeId} (hg : ((W.alloc (.cells #[v] t)).alloc (.cells #[u] r)).grownBy W' (some dp)) (hdp : dp < W.heap.size) :
    (W'.cell? ⟨W.heap.size, 0, none⟩ = some v ∧ W'.frozen? ⟨W.heap.size, 0, none⟩ = false) ∧ W'.cell? ⟨W.heap.size + 1, 0, none⟩ = some u ∧ W'.frozen? ⟨W.heap.size + 1, 0, none⟩ = false := by
  have h := led1 hg (by rw [World.size_alloc]; omega)
  rw [World.size_alloc] at h
  exact ⟨⟨led0 hg (cell_later _ (cell_new W v t)) (by show ¬ W.heap.size = dp; omega), ledf hg (cell_later _ (cell_new W v t)) (frozen_later _ (cell_new W v t) (frozen_new W v t)) (by show ¬ W.heap.size = dp; omega)⟩, h⟩

set_option maxRecDepth 100000 in
set_option maxHeartbeats 4000000 in
theorem longest_any (m n : Int) (ta : Option Addr) (tc : Nat) (ts : List Int) (w : World) (hR : Row w ta ts tc) :
    Calls Tryd.prog 5 #[.agg #[.int .i64 m, .int .i64 n], .slice ta ts.length tc] w fun e W' => e = .returned (.bool true) ∧ Below w.heap.size w W' := by
  have HR := Lib.hid (hR.alloc (.cells #[.int .i64 m, .int .i64 n] 33))
  have HLT := Lib.hid (fun W : World => light_any ta ts.length tc W)
  clear hR
  by_cases hl : (ts.length : Int) ≤ 400
  · go_enter Tryd.func5, Tryd.ntmps5
    go_wp2_with fail
    refine (HLT.out _).mono ?_
    rintro e w' ⟨rfl, rfl⟩
    rw [show decide ((ts.length : Int) ≤ 400) = true from decide_eq_true hl]
    go_wp2_with fail
    have hpr := pair_here w m n 33
    have HP := Lib.hid hpr
    refine (roll_any ta tc ts _ HR.out (by omega)).mono ?_
    rintro e w1 ⟨rfl, hd, hb1⟩
    have hs := hb1.size
    rw [World.size_alloc] at hd hs
    rw [World.size_alloc]
    have HD := Lib.hid hd
    have c0 := (hb1.cell (p := ⟨w.heap.size, 0, none⟩) (by rw [World.size_alloc]; show w.heap.size < _; omega)).trans hpr.1
    have c1 := (hb1.cell (p := ⟨w.heap.size, 1, none⟩) (by rw [World.size_alloc]; show w.heap.size < _; omega)).trans hpr.2
    have HB1 := Lib.hid hb1
    have hs1 : w.heap.size + 1 < w1.heap.size := hd.lt
    clear hd hb1 HR HLT hpr
    go_upto_region 4 with fail
    go_cut [6, 7] (fun s6 s7 wx => Mid w s6 s7 wx)
    case first =>
      have hbw1 : Below w.heap.size w w1 := ((Below.refl _ w).alloc (Nat.le_refl _) _).trans (HB1.out.mono (by rw [World.size_alloc]; omega))
      have k0 := cell_later (.cells #[.slice none 0 0] 24) c0
      have k1 := cell_later (.cells #[.slice none 0 0] 24) c1
      have k2 := cell_later (.cells #[.slice none 0 0] 24) k0
      have k3 := cell_later (.cells #[.slice none 0 0] 24) k1
      have hd : Dice w1.drew (w.heap.size + 1) ta tc ts 0 := HD.out.drewN 1
      have hd1 : Dice (w1.alloc (.cells #[.slice none 0 0] 24)).drew (w.heap.size + 1) ta tc ts 0 := (HD.out.alloc _).drewN 1
      have hd2 : Dice ((w1.alloc (.cells #[.slice none 0 0] 24)).alloc (.cells #[.slice none 0 0] 24)).drew (w.heap.size + 1) ta tc ts 0 := ((HD.out.alloc _).alloc _).drewN 1
      go_region_law (first
        | (go_simp; go_at_call 25; (with_reducible refine (full_any _ (w.heap.size + 1) ta tc ts _ n (by first | exact hd5 | exact hd5.alloc _ | exact (hd5.alloc _).alloc _)).mono ?_); rintro e w6 ⟨sb, cb, y, k6, rfl, hrb, hlb, hd6, hg6, hkb⟩; have hg6a : w5.grownBy w6 (some (w.heap.size + 1)) := (by first | exact hg6 | exact unalloc hg6 | exact unalloc (unalloc hg6)); have hra6 := hka w6 hg6a; have hbw6 := hbw5.trans (below_of_dice (B := w.heap.size) hg6a (Nat.le_succ _) hbw5.size); 
            (first
              | (have hq := led2 hg6 hd5.lt; obtain ⟨⟨hA6, hAf6⟩, hB6, hBf6⟩ := hq)
              | (have hq := led1 hg6 hd5.lt; obtain ⟨hB6, hBf6⟩ := hq; have hA6 := led0 hg6 (cell_later _ hA5) (Nat.ne_of_gt hs1); have hAf6 := ledf hg6 (cell_later _ hA5) (frozen_later _ hA5 hAf5) (Nat.ne_of_gt hs1))
              | (have hA6 := led0 hg6 hA5 (Nat.ne_of_gt hs1); have hAf6 := ledf hg6 hA5 hAf5 (Nat.ne_of_gt hs1); have hB6 := led0 hg6 hB5 (Nat.ne_of_gt (Nat.lt_succ_of_lt hs1)); have hBf6 := ledf hg6 hB5 hBf5 (Nat.ne_of_gt (Nat.lt_succ_of_lt hs1)))
              | (have hA6 := led0 hg6 hA5 (Nat.ne_of_gt hs1); have hAf6 := ledf hg6 hA5 hAf5 (Nat.ne_of_gt hs1))
              | (have hq := led1 hg6 hd5.lt; obtain ⟨hA6, hAf6⟩ := hq)
              | skip); (try (have hA7 := cell_later (.cells #[.slice none 0 0] 24) hA6; have hAf7 := frozen_later (.cells #[.slice none 0 0] 24) hA6 hAf6; have hA8 := cell_later (.cells #[.slice sa (M.dig x).length ca] 24) hA6; have hAf8 := frozen_later (.cells #[.slice sa (M.dig x).length ca] 24) hA6 hAf6; have n3 := Nat.ne_of_lt (lt_of_cell hA6); have n4 := Nat.ne_of_gt (lt_of_cell hA6))); (try (have n5 := Nat.ne_of_lt (lt_of_cell hB6); have n6 := Nat.ne_of_gt (lt_of_cell hB6))); go_simp)
        | (go_simp; go_at_call 25; (with_reducible refine (full_any _ (w.heap.size + 1) ta tc ts _ m (by first | exact hd | exact hd1 | exact hd2)).mono ?_); rintro e w5 ⟨sa, ca, x, k5, rfl, hra, hla, hd5, hg5', hka⟩; have hg5 := undrew hg5'; have hg5a : w1.grownBy w5 (some (w.heap.size + 1)) := (by first | exact hg5 | exact unalloc hg5 | exact unalloc (unalloc hg5)); have hbw5 := hbw1.trans (below_of_dice (B := w.heap.size) hg5a (Nat.le_succ _) hbw1.size); 
            (first
              | (have hq := led2 hg5 hs1; obtain ⟨⟨hA5, hAf5⟩, hB5, hBf5⟩ := hq)
              | (have hq := led1 hg5 hs1; obtain ⟨hA5, hAf5⟩ := hq)
              | skip); (try (have n1 := Nat.ne_of_lt (lt_of_cell hA5); have n2 := Nat.ne_of_gt (lt_of_cell hA5)));
            (have c15 := led0 hg5 (p := ⟨w.heap.size, 1, none⟩) (by first | exact c1 | exact cell_later _ c1 | exact cell_later _ (cell_later _ c1)) (by show ¬ w.heap.size = w.heap.size + 1; omega)); have c16 := cell_later (.cells #[.slice none 0 0] 24) c15; have c17 := cell_later (.cells #[.slice none 0 0] 24) c16; go_simp))
      all_goals (
        have l5 := hd5.lt
        have l1 := hbw1.size
        go_wp2_with fail
        go_meet
        (first
          | exact mid_two hra6 hrb hla hlb hbw6
          | exact mid_owt hra6 hrb hla hlb hbw6
          | exact mid_late hra6 hrb hla hlb hbw6 hA6 (by omega)
          | exact mid_soon hra6 hrb hla hlb hbw6 hA6 (by omega)
          | exact mid_sets hra6 hrb hla hlb hbw6 hA6 hB6 (by omega) (by omega) (by omega)
          | exact mid_sets hra6 hrb hla hlb hbw6 hB6 hA6 (by omega) (by omega) (by omega)))
    case rest =>
      obtain ⟨p, q, a, ca, x, b, cb, y, rfl, rfl, vA, vB, hx, hy, hB⟩ := hcut
      have V_A := Lib.hid vA
      have V_B := Lib.hid vB
      have HB := Lib.hid hB
      clear vA vB hB HD HB1 HP hs hs1 c0 c1
      have e_A := V_A.out.cell
      have e_B := V_B.out.cell
      go_wp2_with fail
      refine (show Calls Tryd.prog 26 _ _ _ from fit_calls (add_num (x := x) (y := y) hx hy ⟨a, ca, rfl, V_A.out.row⟩ ⟨b, cb, rfl, V_B.out.row⟩)).mono ?_
      rintro e u1 ⟨hres, hb⟩
      obtain ⟨v, rfl, a_X, c_X, rfl, hr⟩ := hres
      replace V_A := Lib.hid (V_A.out.below hb)
      replace V_B := Lib.hid (V_B.out.below hb)
      replace HB := Lib.hid (HB.out.trans (hb.mono HB.out.size))
      clear e_A e_B hb
      have l_A := V_A.out.lt
      have l_B := V_B.out.lt
      replace V_A := Lib.hid (V_A.out.alloc (.cells #[.slice a_X (M.dig (fitN (x + y))).length c_X] 24))
      replace V_B := Lib.hid (V_B.out.alloc (.cells #[.slice a_X (M.dig (fitN (x + y))).length c_X] 24))
      have V_X := Lib.hid (Var.new hr)
      replace HB := Lib.hid (HB.out.alloc HB.out.size (.cells #[.slice a_X (M.dig (fitN (x + y))).length c_X] 24))
      clear hr
      have e_A := V_A.out.cell
      have n0_A : ¬ p = u1.heap.size := by omega
      have e_B := V_B.out.cell
      have n0_B : ¬ q = u1.heap.size := by omega
      go_wp2_with fail
      refine (show Calls Tryd.prog 27 _ _ _ from fit_calls (radd_num (x := x) (y := y) hx hy ⟨a, ca, rfl, V_A.out.row⟩ ⟨b, cb, rfl, V_B.out.row⟩)).mono ?_
      rintro e u2 ⟨hres, hb⟩
      obtain ⟨v, rfl, a_Y, c_Y, rfl, hr⟩ := hres
      replace V_A := Lib.hid (V_A.out.below hb)
      replace V_B := Lib.hid (V_B.out.below hb)
      replace V_X := Lib.hid (V_X.out.below hb)
      replace HB := Lib.hid (HB.out.trans (hb.mono HB.out.size))
      clear l_A l_B
      clear e_A n0_A e_B n0_B hb
      have l_A := V_A.out.lt
      have l_B := V_B.out.lt
      have l_X := V_X.out.lt
      replace V_A := Lib.hid (V_A.out.alloc (.cells #[.slice a_Y (M.dig (fitN (x + y))).length c_Y] 24))
      replace V_B := Lib.hid (V_B.out.alloc (.cells #[.slice a_Y (M.dig (fitN (x + y))).length c_Y] 24))
      replace V_X := Lib.hid (V_X.out.alloc (.cells #[.slice a_Y (M.dig (fitN (x + y))).length c_Y] 24))
      have V_Y := Lib.hid (Var.new hr)
      replace HB := Lib.hid (HB.out.alloc HB.out.size (.cells #[.slice a_Y (M.dig (fitN (x + y))).length c_Y] 24))
      clear hr
      have e_A := V_A.out.cell
      have n0_A : ¬ p = u2.heap.size := by omega
      have e_B := V_B.out.cell
      have n0_B : ¬ q = u2.heap.size := by omega
      go_wp2_with fail
      refine (show Calls Tryd.prog 28 _ _ _ from fit_calls (mul_num (x := x) (y := y) hx hy ⟨a, ca, rfl, V_A.out.row⟩ ⟨b, cb, rfl, V_B.out.row⟩)).mono ?_
      rintro e u3 ⟨hres, hb⟩
      obtain ⟨v, rfl, a_U, c_U, rfl, hr⟩ := hres
      replace V_A := Lib.hid (V_A.out.below hb)
      replace V_B := Lib.hid (V_B.out.below hb)
      replace V_X := Lib.hid (V_X.out.below hb)
      replace V_Y := Lib.hid (V_Y.out.below hb)
      replace HB := Lib.hid (HB.out.trans (hb.mono HB.out.size))
      clear l_A l_B l_X
      clear e_A n0_A e_B n0_B hb
      have l_A := V_A.out.lt
      have l_B := V_B.out.lt
      have l_X := V_X.out.lt
      have l_Y := V_Y.out.lt
      replace V_A := Lib.hid (V_A.out.alloc (.cells #[.slice a_U (M.dig (fitN (x * y))).length c_U] 24))
      replace V_B := Lib.hid (V_B.out.alloc (.cells #[.slice a_U (M.dig (fitN (x * y))).length c_U] 24))
      replace V_X := Lib.hid (V_X.out.alloc (.cells #[.slice a_U (M.dig (fitN (x * y))).length c_U] 24))
      replace V_Y := Lib.hid (V_Y.out.alloc (.cells #[.slice a_U (M.dig (fitN (x * y))).length c_U] 24))
      have V_U := Lib.hid (Var.new hr)
      replace HB := Lib.hid (HB.out.alloc HB.out.size (.cells #[.slice a_U (M.dig (fitN (x * y))).length c_U] 24))
      clear hr
      have e_A := V_A.out.cell
      have n0_A : ¬ p = u3.heap.size := by omega
      have e_B := V_B.out.cell
      have n0_B : ¬ q = u3.heap.size := by omega
      go_wp2_with fail
      refine (show Calls Tryd.prog 29 _ _ _ from fit_calls (rmul_num (x := x) (y := y) hx hy ⟨a, ca, rfl, V_A.out.row⟩ ⟨b, cb, rfl, V_B.out.row⟩)).mono ?_
      rintro e u4 ⟨hres, hb⟩
      obtain ⟨v, rfl, a_V, c_V, rfl, hr⟩ := hres
      replace V_A := Lib.hid (V_A.out.below hb)
      replace V_B := Lib.hid (V_B.out.below hb)
      replace V_X := Lib.hid (V_X.out.below hb)
      replace V_Y := Lib.hid (V_Y.out.below hb)
      replace V_U := Lib.hid (V_U.out.below hb)
      replace HB := Lib.hid (HB.out.trans (hb.mono HB.out.size))
      clear l_A l_B l_X l_Y
      clear e_A n0_A e_B n0_B hb
      have l_A := V_A.out.lt
      have l_B := V_B.out.lt
      have l_X := V_X.out.lt
      have l_Y := V_Y.out.lt
      have l_U := V_U.out.lt
      replace V_A := Lib.hid (V_A.out.alloc (.cells #[.slice a_V (M.dig (fitN (x * y))).length c_V] 24))
      replace V_B := Lib.hid (V_B.out.alloc (.cells #[.slice a_V (M.dig (fitN (x * y))).length c_V] 24))
      replace V_X := Lib.hid (V_X.out.alloc (.cells #[.slice a_V (M.dig (fitN (x * y))).length c_V] 24))
      replace V_Y := Lib.hid (V_Y.out.alloc (.cells #[.slice a_V (M.dig (fitN (x * y))).length c_V] 24))
      replace V_U := Lib.hid (V_U.out.alloc (.cells #[.slice a_V (M.dig (fitN (x * y))).length c_V] 24))
      have V_V := Lib.hid (Var.new hr)
      replace HB := Lib.hid (HB.out.alloc HB.out.size (.cells #[.slice a_V (M.dig (fitN (x * y))).length c_V] 24))
      clear hr
      clear V_A l_A
      clear V_B l_B
      go_wp2_with fail
      refine (show Calls Tryd.prog 18 _ _ _ from awake_any _).mono ?_
      rintro e u5 ⟨rfl, hb⟩
      replace V_X := Lib.hid (V_X.out.below hb)
      replace V_Y := Lib.hid (V_Y.out.below hb)
      replace V_U := Lib.hid (V_U.out.below hb)
      replace V_V := Lib.hid (V_V.out.below hb)
      replace HB := Lib.hid (HB.out.trans (hb.mono HB.out.size))
      clear l_X l_Y l_U
      clear hb
      have e_X := V_X.out.cell
      have e_Y := V_Y.out.cell
      go_wp2_with fail
      refine (show Calls Tryd.prog 30 _ _ _ from same_is (x := fitN (x + y)) (y := fitN (x + y)) ⟨a_X, c_X, rfl, V_X.out.row⟩ ⟨a_Y, c_Y, rfl, V_Y.out.row⟩).mono ?_
      rintro e u6 ⟨rfl, hb⟩
      rw [show decide (fitN (x + y) = fitN (x + y)) = true from decide_eq_true rfl]
      replace V_X := Lib.hid (V_X.out.below hb)
      replace V_Y := Lib.hid (V_Y.out.below hb)
      replace V_U := Lib.hid (V_U.out.below hb)
      replace V_V := Lib.hid (V_V.out.below hb)
      replace HB := Lib.hid (HB.out.trans (hb.mono HB.out.size))
      clear e_X e_Y hb
      clear V_X
      clear V_Y
      have e_U := V_U.out.cell
      have e_V := V_V.out.cell
      go_wp2_with fail
      refine (show Calls Tryd.prog 30 _ _ _ from same_is (x := fitN (x * y)) (y := fitN (x * y)) ⟨a_U, c_U, rfl, V_U.out.row⟩ ⟨a_V, c_V, rfl, V_V.out.row⟩).mono ?_
      rintro e u7 ⟨rfl, hb⟩
      rw [show decide (fitN (x * y) = fitN (x * y)) = true from decide_eq_true rfl]
      replace V_U := Lib.hid (V_U.out.below hb)
      replace V_V := Lib.hid (V_V.out.below hb)
      replace HB := Lib.hid (HB.out.trans (hb.mono HB.out.size))
      clear e_U e_V hb
      go_wp2_with fail
      go_ret
      exact ⟨rfl, HB.out⟩
  · have hlf : decide ((ts.length : Int) ≤ 400) = false := decide_eq_false hl
    go_enter Tryd.func5, Tryd.ntmps5
    go_wp2_with fail
    refine (HLT.out _).mono ?_
    rintro e w' ⟨rfl, rfl⟩
    rw [hlf]
    go_wp2_with fail
    refine (awake_any _).mono ?_
    rintro e w2 ⟨rfl, hb2⟩
    go_wp2_with fail
    go_ret
    exact ⟨rfl, ((Below.refl _ w).alloc (Nat.le_refl _) _).trans (hb2.mono (by rw [World.size_alloc]; omega))⟩
end Go.Proofs.YtamniclnhenmgaaDoor
