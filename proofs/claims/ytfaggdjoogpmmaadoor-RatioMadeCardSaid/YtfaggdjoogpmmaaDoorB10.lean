/- law02.some: a fraction in lowest terms, by dice. ratio.Divide of valid fractions whose products are short. ratio's functions of short fractions, by their values. ratio.Divide by 0. What the statements' last steps share: a start that fits, and the row's post behind a call that only makes memory. A parameter of type []int: its row of numbers, and its reading again behind a call that only makes memory. -/
import Derived.Test.YtfaggdjoogpmmaaDoorB9
import Derived.Deep.CutBlock
import Derived.Deep.DeepCutAuto
import Derived.Test.YtfaggdjoogpmmaaDoorCards
import Derived.Test.YtfaggdjoogpmmaaDoorTie
import Derived.WalkKit
import Derived.ProofKit
import Derived.OpenShut
import Derived.Deep.DeepHandedRow
import Derived.Lib.LaidTab
namespace Go.Proofs.YtfaggdjoogpmmaaDoor
open Go Go.RowKit Go.Shelf

theorem Row.grownF {W W' : World} {a : Option Addr} {zs : List Int} {cap B dp : Nat} (h : Row W a zs cap) (hg : W.grownBy W' (some dp)) (hf : Fresh B a zs) (hB : dp < B) : Row W' a zs cap := by
  rcases Nat.eq_zero_or_pos zs.length with h0 | h0
  · exact ⟨h.room, h.most, fun j hj => by omega⟩
  · exact h.grown hg fun b off e => by have := hf b off e h0; intro e2; cases e2; omega
theorem gunalloc {W W' : World} {row : Option Nat} {o : Obj} (h : (W.alloc o).grownBy W' row) : W.grownBy W' row :=
  ⟨h.os, h.tape, h.output, Nat.le_trans (by rw [World.size_alloc]; omega) h.size, fun k hk hne => (h.block k (by rw [World.size_alloc]; omega) hne).trans (Below.heap_alloc _ _ _ hk)⟩
theorem gcell {W W' : World} {dp : Nat} {p : Addr} {v : Value} (hg : W.grownBy W' (some dp)) (h : W.cell? p = some v) (hne : ¬ p.block = dp) : W'.cell? p = some v :=
  hg.cell h (by intro e; cases e; exact hne rfl)
theorem gfree {W W' : World} {dp : Nat} {p : Addr} {v : Value} (hg : W.grownBy W' (some dp)) (h : W.cell? p = some v) (hf : W.frozen? p = false) (hne : ¬ p.block = dp) : W'.frozen? p = false :=
  (World.frozen?_of_block (hg.block p.block (lt_of_cell h) (by intro e; cases e; exact hne rfl))).trans hf
theorem gbelow {W W' : World} {row : Option Nat} (h : Below W.heap.size W W') : W.grownBy W' row := ⟨h.os, h.tape, h.output, h.size, fun k hk _ => h.block k hk⟩

theorem own_any (w : World) (B : Nat) (z : Int) (h : B ≤ w.heap.size) : Own (w.alloc (.cells #[.int .i64 z] 3)) B (.slice (some ⟨w.heap.size, 0, none⟩) 1 1) [z] := by
  have := World.ownsRow_made (base := B) (e := 3) (size := 1) w #[.int .i64 z] 1 h (by unfold maxLen; omega) rfl
  obtain ⟨h1, h2 | ⟨g, cap, cur, e, hb, hh, r⟩⟩ := this
  · cases h2.1
  · cases e
    refine ⟨rfl, .inr ⟨_, 1, cur, rfl, hb, hh, Nat.le_refl _, r.2.1, r.2.2.1, ?_⟩⟩
    have hh' := World.alloc_heap_new w (.cells #[.int .i64 z] 3)
    rw [hh'] at hh
    cases hh
    rfl
theorem dig_small (r : Nat) (h : r < 9) : M.dig (1 + r) = [1 + (r : Int)] := by
  rw [M.dig_pos (by omega), show (1 + r) / 16777216 = 0 by omega, M.dig_zero]
  show [(((1 + r) % 16777216 : Nat) : Int)] = _
  congr 1
  omega

theorem nat3 (w : World) (dp : Nat) (a : Option Addr) (cap : Nat) (ts : List Int) (k : Nat) (hD : Dice w dp a cap ts k) :
    Calls Tryd.prog 22 #[.pointer (some ⟨dp, 0, none⟩), .int .i64 3] w fun e W => ∃ (s : Option Addr) (c x k' : Nat), e = .returned (.agg #[.slice s (M.dig x).length c]) ∧ Row W s (M.dig x) c ∧ (M.dig x).length ≤ 3 ∧ Dice W dp a cap ts k' ∧ w.grownBy W (some dp) ∧ ∀ W', W.grownBy W' (some dp) → Row W' s (M.dig x) c := by
  refine (diceNat_keep w dp a cap ts k 3 (by decide) hD).mono ?_
  rintro e W ⟨v, x, k', rfl, ⟨s, c, rfl, hr⟩, hl, hd, hg, hk⟩
  refine ⟨s, c, x, k', rfl, hr, hl, hd, hg, fun W' h => ?_⟩
  obtain ⟨s', c', e, hr'⟩ := hk W' h
  cases e
  exact hr'
theorem next9 (w : World) (dp : Nat) (a : Option Addr) (cap : Nat) (ts : List Int) (k : Nat) (hD : Dice w dp a cap ts k) :
    Calls Tryd.prog 50 #[.pointer (some ⟨dp, 0, none⟩), .int .i64 9] w fun e W => ∃ (r k' : Nat), r < 9 ∧ e = .returned (.int .i64 (r : Int)) ∧ Dice W dp a cap ts k' ∧ w.grownBy W (some dp) :=
  (next_any w dp a cap ts k 9 (by decide) (by decide) hD).mono fun _ _ h => h

/-- The denominator lies in its variable. -/
def SmDen (w : World) (dp : Nat) (a : Option Addr) (cap : Nat) (ts : List Int) (p : Nat) (W : World) : Prop :=
  ∃ (sd : Option Addr) (cd y k : Nat), W.cell? ⟨p, 0, none⟩ = some (.slice sd (M.dig y).length cd) ∧ 0 < y ∧ (M.dig y).length ≤ 3 ∧ Row W sd (M.dig y) cd ∧ (∀ W', W.grownBy W' (some dp) → Row W' sd (M.dig y) cd) ∧ Dice W dp a cap ts k ∧ w.grownBy W (some dp) ∧
    W.cell? ⟨w.heap.size, 0, none⟩ = some (.slice none 0 0) ∧ W.frozen? ⟨w.heap.size, 0, none⟩ = false ∧ W.cell? ⟨w.heap.size, 1, none⟩ = some (.slice none 0 0) ∧ W.frozen? ⟨w.heap.size, 1, none⟩ = false ∧ p < W.heap.size

/-- What some gives. -/
def SomePost (w : World) (dp : Nat) (a : Option Addr) (cap : Nat) (ts : List Int) (e : Ending) (W : World) : Prop :=
  ∃ (s : Option Addr) (c : Nat) (t : Option Addr) (d x y k : Nat), e = .returned (.agg #[.slice s (M.dig x).length c, .slice t (M.dig y).length d]) ∧ 0 < y ∧ Nat.gcd x y = 1 ∧ (M.dig x).length ≤ 3 ∧ (M.dig y).length ≤ 3 ∧ Dice W dp a cap ts k ∧ w.grownBy W (some dp) ∧
    Row W s (M.dig x) c ∧ Row W t (M.dig y) d ∧ ∀ W', W.grownBy W' (some dp) → Row W' s (M.dig x) c ∧ Row W' t (M.dig y) d

theorem gundrew {W W' : World} {row : Option Nat} (h : W.drew.grownBy W' row) : W.grownBy W' row := ⟨h.os, h.tape, h.output, h.size, h.block⟩
/-- A variable of type Ratio that was laid just ahead. -/
theorem gtwo {W W' : World} {dp : Nat} {u v : Value} {t : TypeId} (hg : (W.alloc (.cells #[u, v] t)).drew.grownBy W' (some dp)) (hdp : dp < W.heap.size) :
    W'.cell? ⟨W.heap.size, 0, none⟩ = some u ∧ W'.frozen? ⟨W.heap.size, 0, none⟩ = false ∧ W'.cell? ⟨W.heap.size, 1, none⟩ = some v ∧ W'.frozen? ⟨W.heap.size, 1, none⟩ = false := by
  obtain ⟨⟨h0, h1⟩, h2, h3⟩ := two_cells W u v t
  have hg' := gundrew hg
  exact ⟨gcell hg' h0 (by show ¬ W.heap.size = dp; omega), gfree hg' h0 h1 (by show ¬ W.heap.size = dp; omega), gcell hg' h2 (by show ¬ W.heap.size = dp; omega), gfree hg' h2 h3 (by show ¬ W.heap.size = dp; omega)⟩
theorem below_two {W W' : World} {u v : Value} {t : TypeId} (hb : Below (W.alloc (.cells #[u, v] t)).heap.size (W.alloc (.cells #[u, v] t)) W') :
    W'.cell? ⟨W.heap.size, 0, none⟩ = some u ∧ W'.frozen? ⟨W.heap.size, 0, none⟩ = false ∧ W'.cell? ⟨W.heap.size, 1, none⟩ = some v ∧ W'.frozen? ⟨W.heap.size, 1, none⟩ = false := by
  obtain ⟨⟨h0, h1⟩, h2, h3⟩ := two_cells W u v t
  exact ⟨cell_below hb h0, frozen_below hb h0 h1, cell_below hb h2, frozen_below hb h2 h3⟩

/-- The fraction lies in its variable. -/
def SmNum (w : World) (dp : Nat) (a : Option Addr) (cap : Nat) (ts : List Int) (p : Value) (W : World) : Prop :=
  ∃ (q : Nat) (s : Option Addr) (c : Nat) (t : Option Addr) (d x y k : Nat), p = .pointer (some ⟨q, 0, none⟩) ∧ RVar W q s c t d x y ∧ 0 < y ∧ Nat.gcd x y = 1 ∧ (M.dig x).length ≤ 3 ∧ (M.dig y).length ≤ 3 ∧ Dice W dp a cap ts k ∧ w.grownBy W (some dp) ∧
    Fresh (dp + 1) s (M.dig x) ∧ Fresh (dp + 1) t (M.dig y) ∧
    W.cell? ⟨w.heap.size, 0, none⟩ = some (.slice none 0 0) ∧ W.frozen? ⟨w.heap.size, 0, none⟩ = false ∧ W.cell? ⟨w.heap.size, 1, none⟩ = some (.slice none 0 0) ∧ W.frozen? ⟨w.heap.size, 1, none⟩ = false

theorem Fresh.lower {B B' : Nat} {a : Option Addr} {zs : List Int} (h : Fresh B a zs) (hB : B' ≤ B) : Fresh B' a zs := fun b off e hl => Nat.le_trans hB (h b off e hl)
section
variable {w W : World} {dp : Nat} {a : Option Addr} {cap : Nat} {ts : List Int} {s t : Option Addr} {c d x y k : Nat}
theorem sm_new (h1 : Row W s (M.dig x) c) (h2 : Row W t (M.dig y) d) (hf1 : Fresh (dp + 1) s (M.dig x)) (hf2 : Fresh (dp + 1) t (M.dig y)) (hy : 0 < y) (hg : Nat.gcd x y = 1) (hlx : (M.dig x).length ≤ 3) (hly : (M.dig y).length ≤ 3) (hd : Dice W dp a cap ts k) (hG : w.grownBy W (some dp))
    (r0 : W.cell? ⟨w.heap.size, 0, none⟩ = some (.slice none 0 0)) (f0 : W.frozen? ⟨w.heap.size, 0, none⟩ = false) (r1 : W.cell? ⟨w.heap.size, 1, none⟩ = some (.slice none 0 0)) (f1 : W.frozen? ⟨w.heap.size, 1, none⟩ = false) :
    SmNum w dp a cap ts (.pointer (some ⟨W.heap.size, 0, none⟩)) (W.alloc (.cells #[.slice s (M.dig x).length c, .slice t (M.dig y).length d] 58)) :=
  ⟨_, s, c, t, d, x, y, k, rfl, RVar.new h1 h2, hy, hg, hlx, hly, hd.alloc _, grown_alloc hG _, hf1, hf2, cell_later _ r0, frozen_later _ r0 f0, cell_later _ r1, frozen_later _ r1 f1⟩
theorem sm_set {q : Nat} (q0 : W.cell? ⟨q, 0, none⟩ = some (.slice none 0 0)) (q1 : W.cell? ⟨q, 1, none⟩ = some (.slice none 0 0)) (hq : w.heap.size < q) (hqd : dp ≠ q)
    (h1 : Row W s (M.dig x) c) (h2 : Row W t (M.dig y) d) (hf1 : Fresh (dp + 1) s (M.dig x)) (hf2 : Fresh (dp + 1) t (M.dig y)) (hy : 0 < y) (hg : Nat.gcd x y = 1) (hlx : (M.dig x).length ≤ 3) (hly : (M.dig y).length ≤ 3) (hd : Dice W dp a cap ts k) (hG : w.grownBy W (some dp))
    (r0 : W.cell? ⟨w.heap.size, 0, none⟩ = some (.slice none 0 0)) (f0 : W.frozen? ⟨w.heap.size, 0, none⟩ = false) (r1 : W.cell? ⟨w.heap.size, 1, none⟩ = some (.slice none 0 0)) (f1 : W.frozen? ⟨w.heap.size, 1, none⟩ = false) :
    SmNum w dp a cap ts (.pointer (some ⟨q, 0, none⟩)) ((W.setCell ⟨q, 0, none⟩ (.slice s (M.dig x).length c)).setCell ⟨q, 1, none⟩ (.slice t (M.dig y).length d)) := by
  have q1' : (W.setCell ⟨q, 0, none⟩ (.slice s (M.dig x).length c)).cell? ⟨q, 1, none⟩ = some (.slice none 0 0) := (World.cell?_setCell_other _ _ _ _ (by intro e; cases e)).trans q1
  refine ⟨q, s, c, t, d, x, y, k, rfl, ⟨?_, ?_, (h1.storedAt q0 _).storedAt q1' _, (h2.storedAt q0 _).storedAt q1' _⟩, hy, hg, hlx, hly, (hd.store q0 (Ne.symm hqd) _).store q1' (Ne.symm hqd) _, grown_setCell (grown_setCell hG _ (.inl (by show _ ≤ q; omega))) _ (.inl (by show _ ≤ q; omega)), hf1, hf2, ?_, ?_, ?_, ?_⟩
  · exact (World.cell?_setCell_other _ _ _ _ (by intro e; cases e)).trans (World.cell?_setCell_same' _ _ _ (by rw [q0]; rfl))
  · exact World.cell?_setCell_same' _ _ _ (by rw [q1']; rfl)
  · exact (cell_other _ (show w.heap.size ≠ q by omega)).trans ((cell_other _ (show w.heap.size ≠ q by omega)).trans r0)
  · exact (World.frozen?_setCell _ _ _ _).trans ((World.frozen?_setCell _ _ _ _).trans f0)
  · exact (cell_other _ (show w.heap.size ≠ q by omega)).trans ((cell_other _ (show w.heap.size ≠ q by omega)).trans r1)
  · exact (World.frozen?_setCell _ _ _ _).trans ((World.frozen?_setCell _ _ _ _).trans f1)
end

set_option maxRecDepth 100000 in
set_option maxHeartbeats 2000000 in
/-- **law02.some** -/
theorem some_any (w : World) (dp : Nat) (a : Option Addr) (cap : Nat) (ts : List Int) (k : Nat) (hD : Dice w dp a cap ts k) :
    Calls Tryd.prog 49 #[.pointer (some ⟨dp, 0, none⟩)] w (SomePost w dp a cap ts) := by
  have hlt := hD.lt
  obtain ⟨⟨r0, f0⟩, r1, f1⟩ := two_cells w (.slice none 0 0) (.slice none 0 0) 58
  have hd1 := hD.alloc (.cells #[.slice none 0 0, .slice none 0 0] 58)
  have R0 := Lib.hid r0
  have R1 := Lib.hid r1
  have F0 := Lib.hid f0
  have F1 := Lib.hid f1
  have HD1 := Lib.hid hd1
  have HG1 := Lib.hid (grown_alloc (World.grownBy.refl w (some dp)) (.cells #[.slice none 0 0, .slice none 0 0] 58))
  clear r0 r1 f0 f1 hd1 hD
  go_enter Tryd.func49, Tryd.ntmps49
  go_wp2_with fail
  have hs1 : (w.alloc (.cells #[.slice none 0 0, .slice none 0 0] 58)).heap.size = w.heap.size + 1 := World.size_alloc _ _
  generalize (w.alloc (.cells #[.slice none 0 0, .slice none 0 0] 58)) = w1 at *
  refine (nat3 w1 dp a cap ts k HD1.out).mono ?_
  rintro e w2 ⟨sd, cd, y, k2, rfl, hrd, hld, hd2, hg2, hkd⟩
  have hne : ¬ w.heap.size = dp := by omega
  have hlt2 := hd2.lt
  have hs2 := hg2.size
  have R02 := Lib.hid (gcell hg2 R0.out hne)
  have R12 := Lib.hid (gcell hg2 R1.out hne)
  have F02 := Lib.hid (gfree hg2 R0.out F0.out hne)
  have F12 := Lib.hid (gfree hg2 R1.out F1.out hne)
  have HG2 := Lib.hid (HG1.out.trans hg2)
  have HD2 := Lib.hid (hd2.alloc (.cells #[.slice sd (M.dig y).length cd] 24))
  have HRD := Lib.hid (hrd.alloc (.cells #[.slice sd (M.dig y).length cd] 24))
  have HKD := Lib.hid (fun W' (h : (w2.alloc (.cells #[.slice sd (M.dig y).length cd] 24)).grownBy W' (some dp)) => hkd W' (gunalloc h))
  have hlt2' : dp < w2.heap.size := hlt2
  have hs1' : w.heap.size + 1 ≤ w2.heap.size := by omega
  clear R0 R1 F0 F1 HD1 HG1 hrd hd2 hg2 hkd hs1 hs2 hlt2
  have hb2 := hlt2'
  go_upto_if 11 with fail
  go_cut [12] (fun _ wx => SmDen w dp a cap ts w2.heap.size wx)
  case first =>
    have hpp : ¬ w2.heap.size = dp := by omega
    have c0 := cell_new w2 (.slice sd (M.dig y).length cd) 24
    have cf := frozen_new w2 (.slice sd (M.dig y).length cd) 24
    have s0 : (w2.alloc (.cells #[.slice sd (M.dig y).length cd] 24)).heap.size = w2.heap.size + 1 := World.size_alloc _ _
    have K0 := Lib.hid (cell_later (.cells #[.slice sd (M.dig y).length cd] 24) R02.out)
    have K1 := Lib.hid (cell_later (.cells #[.slice sd (M.dig y).length cd] 24) R12.out)
    have L0 := Lib.hid (frozen_later (.cells #[.slice sd (M.dig y).length cd] 24) R02.out F02.out)
    have L1 := Lib.hid (frozen_later (.cells #[.slice sd (M.dig y).length cd] 24) R12.out F12.out)
    have HG3 := Lib.hid (grown_alloc HG2.out (.cells #[.slice sd (M.dig y).length cd] 24))
    clear R02 R12 F02 F12 HG2
    generalize (w2.alloc (.cells #[.slice sd (M.dig y).length cd] 24)) = w3 at *
    have C0 := Lib.hid c0
    have CF := Lib.hid cf
    by_cases hz : y = 0
    · have hlen : (((M.dig y).length : Int) == 0) = true := by rw [hz, M.dig_zero]; rfl
      clear c0 cf hz
      go_wp2_with fail
      refine (next9 w3 dp a cap ts k2 HD2.out).mono ?_
      rintro e w4 ⟨r, k4, hr, rfl, hd4, hg4⟩
      have c4 := gcell hg4 C0.out hpp
      have f4 := gfree hg4 C0.out CF.out hpp
      have K04 := Lib.hid (gcell hg4 K0.out hne)
      have K14 := Lib.hid (gcell hg4 K1.out hne)
      have L04 := Lib.hid (gfree hg4 K0.out L0.out hne)
      have L14 := Lib.hid (gfree hg4 K1.out L1.out hne)
      have HG4 := Lib.hid (HG3.out.trans hg4)
      have HD4 := Lib.hid hd4
      have hs4 := hg4.size
      clear hd4 hg4 K0 K1 L0 L1 HG3
      have c4' := cell_later (.cells #[.int .i64 (1 + (r : Int))] 3) c4
      have f4' := frozen_later (.cells #[.int .i64 (1 + (r : Int))] 3) c4 f4
      have n4 : ¬ w2.heap.size = w4.heap.size := by omega
      have HOW := Lib.hid (own_any w4 (w2.heap.size + 1) (1 + (r : Int)) (by omega))
      go_wp2_with fail
      go_meet
      have hdig := dig_small r hr
      have hown := HOW.out.setBelow (p := ⟨w2.heap.size, 0, none⟩) (Nat.lt_succ_self _) (.slice (some ⟨w4.heap.size, 0, none⟩) 1 1)
      refine ⟨some ⟨w4.heap.size, 0, none⟩, 1, 1 + r, k4, ?_, by omega, by rw [hdig]; simp, ?_, ?_, (HD4.out.alloc _).store c4' (by show w2.heap.size ≠ dp; omega) _, ?_, ?_, ?_, ?_, ?_, ?_⟩
      · rw [hdig]; exact World.cell?_setCell_same' _ _ _ (by rw [c4']; rfl)
      · rw [hdig]; exact hown.rowAt
      · intro W' hg
        rw [hdig]
        exact Own.rowAt (B := w2.heap.size + 1) (World.ownsRow.kept hown hg (.inr (by intro e; simp [Value.ownBlock] at e; omega)))
      · exact grown_setCell (grown_alloc HG4.out _) _ (.inl (by show w.heap.size ≤ w2.heap.size; omega))
      · exact (cell_other _ (show w.heap.size ≠ w2.heap.size by omega)).trans (cell_later _ K04.out)
      · exact (World.frozen?_setCell _ _ _ _).trans (frozen_later _ K04.out L04.out)
      · exact (cell_other _ (show w.heap.size ≠ w2.heap.size by omega)).trans (cell_later _ K14.out)
      · exact (World.frozen?_setCell _ _ _ _).trans (frozen_later _ K14.out L14.out)
      · simp [World.setCell]; omega
    · have hlen : (((M.dig y).length : Int) == 0) = false := by
        rw [beq_eq_false_iff_ne]
        intro h
        have := M.dig_nil.1 (List.length_eq_zero_iff.1 (by omega : (M.dig y).length = 0))
        omega
      clear c0 cf
      go_wp2_with fail
      go_meet
      exact ⟨sd, cd, y, k2, C0.out, by omega, hld, HRD.out, HKD.out, HD2.out, HG3.out, K0.out, L0.out, K1.out, L1.out, by omega⟩
  case rest =>
    clear R02 R12 F02 F12 HG2 HD2 HRD HKD
    obtain ⟨te, ce, z, k5, c0, hz0, hlz, hrz, hkz, hdd, hgd, r0, f0, r1, f1, hp⟩ := hcut
    have hpp : ¬ w2.heap.size = dp := by omega
    have R0 := Lib.hid r0
    have R1 := Lib.hid r1
    have F0 := Lib.hid f0
    have F1 := Lib.hid f1
    have HKZ := Lib.hid hkz
    have HG := Lib.hid hgd
    have hd0 : Dice wc.drew dp a cap ts k5 := hdd.drewN 1
    have hd1 : Dice (wc.alloc (.cells #[.slice none 0 0, .slice none 0 0] 58)).drew dp a cap ts k5 := (hdd.alloc _).drewN 1
    have hdw := hdd.lt
    have hww := hgd.size
    clear r0 f0 r1 f1 hkz hgd hdd hrz
    go_upto_region 4 with fail
    go_cut [4] (fun s4 wx => SmNum w dp a cap ts s4 wx)
    case first =>
      have c0a := cell_later (.cells #[.slice none 0 0, .slice none 0 0] 58) c0
      go_region_law (first
        | (go_simp; go_at_call 22; (with_reducible refine (nat3 _ dp a cap ts k5 (by first | exact hd0 | exact hd1)).mono ?_); rintro e w6 ⟨sx, cx, x, k6, rfl, hrx, hlx, hd6, hg6, hkx⟩; have hg6' : wc.grownBy w6 (some dp) := (by first | exact gundrew hg6 | exact gunalloc (gundrew hg6)); have c6 := gcell hg6' c0 hpp; have c6a := cell_later (.cells #[.slice none 0 0, .slice none 0 0] 58) c6; have HRZ := Lib.hid (HKZ.out w6 hg6'); (first | (have hq := gtwo hg6 hdw; have QQ := Lib.hid hq; clear hq) | skip); go_simp)
        | (go_simp; go_at_call 52; (with_reducible refine (rmake_pos sx te cx ce x z _ hz0 (Nat.le_trans hlx (by decide)) (Nat.le_trans hlz (by decide)) (by first | exact hrx | exact hrx.alloc _) (by first | exact HRZ.out | exact HRZ.out.alloc _)).mono ?_); rintro e w7 ⟨⟨v, rfl, s1, c1, s2, c2, rfl, hr1, hr2, hf1, hf2⟩, hb7⟩; 
            (first
              | (have hq := below_two hb7; obtain ⟨q0, q1, q2, q3⟩ := hq)
              | (have q0 := cell_below hb7 QQ.out.1; have q1 := frozen_below hb7 QQ.out.1 QQ.out.2.1; have q2 := cell_below hb7 QQ.out.2.2.1; have q3 := frozen_below hb7 QQ.out.2.2.1 QQ.out.2.2.2)
              | skip); go_simp))
      all_goals (
        have l6 := hd6.lt
        have hbx : Below w6.heap.size w6 w7 := (by first | exact hb7 | exact step_below (Below.refl _ w6) hb7)
        have hgx := hg6'.trans (gbelow (row := some dp) hbx)
        have HGX := Lib.hid (HG.out.trans hgx)
        have HDX := Lib.hid (hd6.below hbx)
        have r0x := Lib.hid (gcell hgx R0.out hne)
        have r1x := Lib.hid (gcell hgx R1.out hne)
        have f0x := Lib.hid (gfree hgx R0.out F0.out hne)
        have f1x := Lib.hid (gfree hgx R1.out F1.out hne)
        have FA := Lib.hid (hf1.lower (B' := dp + 1) (by first | omega | (rw [World.size_alloc]; omega)))
        have FB := Lib.hid (hf2.lower (B' := dp + 1) (by first | omega | (rw [World.size_alloc]; omega)))
        have hxl := Lib.hid (Nat.le_trans (M.dig_len_mono (Nat.div_le_self x (Nat.gcd x z))) hlx)
        have hzl := Lib.hid (Nat.le_trans (M.dig_len_mono (Nat.div_le_self z (Nat.gcd x z))) hlz)
        have hgp : 0 < Nat.gcd x z := Nat.gcd_pos_of_pos_right x hz0
        have hzp := Lib.hid (Nat.div_pos (Nat.gcd_le_right x hz0) hgp)
        have hgg := Lib.hid (Nat.gcd_div_gcd_div_gcd_of_pos_right (n := x) (m := z) hz0)
        have HR1 := Lib.hid hr1
        have HR2 := Lib.hid hr2
        have s6 := hg6'.size
        clear hd6 hg6 hg6' hbx hgx hr1 hr2 hf1 hf2 hgp c6 c6a hrx hb7
        go_wp2_with fail
        go_meet
        (first
          | exact sm_new HR1.out HR2.out FA.out FB.out hzp.out hgg.out hxl.out hzl.out HDX.out HGX.out r0x.out f0x.out r1x.out f1x.out
          | exact sm_set q0 q2 (by omega) (by omega) HR1.out HR2.out FA.out FB.out hzp.out hgg.out hxl.out hzl.out HDX.out HGX.out r0x.out f0x.out r1x.out f1x.out))
    case rest =>
      obtain ⟨q, s, c, t, d, x, y', k7, rfl, hV, hy0, hgcd, hlx, hly, hdd, hgd, hf1, hf2, r0, f0, r1, f1⟩ := hcut
      have V := Lib.hid hV
      have HDX := Lib.hid hdd
      have HGX := Lib.hid hgd
      have FA := Lib.hid hf1
      have FB := Lib.hid hf2
      have HGCD := Lib.hid hgcd
      have e0 := V.out.c0
      have e1 := V.out.c1
      clear hV hdd hgd hf1 hf2 hgcd R0 R1 F0 F1 HKZ HG
      go_wp2_with fail
      have r1' : (wc.setCell ⟨w.heap.size, 0, none⟩ (.slice s (M.dig x).length c)).cell? ⟨w.heap.size, 1, none⟩ = some (.slice none 0 0) := (World.cell?_setCell_other _ _ _ _ (by intro e; cases e)).trans r1
      have hra := (V.out.ra.storedAt r0 (.slice s (M.dig x).length c)).storedAt r1' (.slice t (M.dig y').length d)
      have hrb := (V.out.rb.storedAt r0 (.slice s (M.dig x).length c)).storedAt r1' (.slice t (M.dig y').length d)
      refine bodyPost_ret (v := .agg #[.slice s (M.dig x).length c, .slice t (M.dig y').length d]) (by simp [results, Tryd.results49, go_sem, r0, r1]) rfl ⟨s, c, t, d, x, y', k7, rfl, hy0, HGCD.out, hlx, hly, (HDX.out.store r0 hne _).store r1' hne _, grown_setCell (grown_setCell HGX.out _ (.inl (Nat.le_refl _))) _ (.inl (Nat.le_refl _)), hra, hrb, fun W' hg => ⟨hra.grownF hg FA.out (Nat.lt_succ_self _), hrb.grownF hg FB.out (Nat.lt_succ_self _)⟩⟩
end Go.Proofs.YtfaggdjoogpmmaaDoor

namespace Go.Proofs.YtfaggdjoogpmmaaDoor
open Go Go.RowKit Go.Shelf

set_option maxRecDepth 100000 in
set_option maxHeartbeats 2000000 in
/-- **ratio.Divide** by a fraction that is not 0. -/
theorem ratDiv_fit {u v : Value} {x y z t : Nat} {w : World} (hu : RatV w u x y) (hv : RatV w v z t) (hx : (M.dig x).length ≤ 200) (hy : (M.dig y).length ≤ 200) (hz : (M.dig z).length ≤ 200) (ht : (M.dig t).length ≤ 200) (hy0 : 0 < y) (ht0 : 0 < t) (hz0 : 0 < z) (hg1 : Nat.gcd x y = 1) (hg2 : Nat.gcd z t = 1) (h1 : (M.dig (x * t)).length ≤ 200) (h2 : (M.dig (y * z)).length ≤ 200) :
    Calls Tryd.prog 60 #[u, v] w fun e W' => (∃ r, e = .returned (.tuple #[r, .int .i64 0]) ∧ RatV W' r (x * t / Nat.gcd (x * t) (y * z)) (y * z / Nat.gcd (x * t) (y * z))) ∧ Below w.heap.size w W' := by
  obtain ⟨a, ca, b, cb, rfl, hA, hB⟩ := hu
  obtain ⟨c, cc, d, cd, rfl, hC, hD⟩ := hv
  have HS := Lib.hid (R2St.start hA hB hC hD)
  have HZN := Lib.hid (show (((M.dig z).length : Int) == 0) = false from beq_eq_false_iff_ne.2 (by intro h; have := M.dig_nil.1 (List.length_eq_zero_iff.1 (by omega : (M.dig z).length = 0)); omega))
  have HG1 := Lib.hid hg1
  have HG2 := Lib.hid hg2
  clear hA hB hC hD hg1 hg2
  go_enter Tryd.func60, Tryd.ntmps60
  have p0 := HS.out.p0
  have p1 := HS.out.p1
  go_wp2_with fail
  generalize (((w.alloc (.cells #[.slice a (M.dig x).length ca, .slice b (M.dig y).length cb] 58)).alloc (.cells #[.slice c (M.dig z).length cc, .slice d (M.dig t).length cd] 58)).alloc (.cells #[.slice none 0 0, .slice none 0 0] 58)) = w3 at *
  refine (show Calls Tryd.prog 59 _ _ _ from ratValid_yes (x := x) (y := y) ⟨a, ca, b, cb, rfl, HS.out.ra, HS.out.rb⟩ hy0 HG1.out hx hy).mono ?_
  rintro e w4 ⟨rfl, hb4⟩
  have HS4 := Lib.hid (HS.out.keep hb4)
  clear hb4 p0 p1 HS
  have q0 := HS4.out.q0
  have q1 := HS4.out.q1
  go_wp2_with fail
  refine (show Calls Tryd.prog 59 _ _ _ from ratValid_yes (x := z) (y := t) ⟨c, cc, d, cd, rfl, HS4.out.rc, HS4.out.rd⟩ ht0 HG2.out hz ht).mono ?_
  rintro e w5 ⟨rfl, hb5⟩
  have HS5 := Lib.hid (HS4.out.keep hb5)
  clear hb5 q0 q1 HS4
  have q0 := HS5.out.q0
  go_wp2_with fail
  refine (isZero_any c cc z _).mono ?_
  rintro e w7 ⟨rfl, hb7⟩
  rw [HZN.out]
  have HS7 := Lib.hid (HS5.out.keep hb7)
  clear hb7 q0 HS5
  have p0 := HS7.out.p0
  have p1 := HS7.out.p1
  have q0 := HS7.out.q0
  have q1 := HS7.out.q1
  go_wp2_with fail
  refine (show Calls Tryd.prog 97 _ _ _ from product_fit (x := x) (y := y) (z := t) (t := z) ⟨a, ca, b, cb, rfl, HS7.out.ra, HS7.out.rb⟩ ⟨d, cd, c, cc, rfl, HS7.out.rd, HS7.out.rc⟩ hx hy ht hz (Nat.mul_pos hy0 hz0) h1 h2).mono ?_
  rintro e w6 ⟨⟨v, rfl, e1, g1, e2, g2, rfl, hr1, hr2⟩, hb6⟩
  have HS6 := Lib.hid (HS7.out.keep hb6)
  have HR := Lib.hid (HS6.out.done hr1 hr2)
  have r0 := HS6.out.r0
  have r1 := HS6.out.r1
  have f0 := HS6.out.f0
  have f1 := HS6.out.f1
  clear hr1 hr2 hb6 p0 p1 q0 q1 HS7
  go_wp2_with fail
  refine bodyPost_ret (v := .tuple #[.agg #[.slice e1 (M.dig (x * t / Nat.gcd (x * t) (y * z))).length g1, .slice e2 (M.dig (y * z / Nat.gcd (x * t) (y * z))).length g2], .int .i64 0]) (by simp [results, Tryd.results60, go_sem, r0, r1]) rfl ⟨⟨_, rfl, HR.out.1⟩, HR.out.2⟩
end Go.Proofs.YtfaggdjoogpmmaaDoor

namespace Go.Proofs.YtfaggdjoogpmmaaDoor
open Go Go.RowKit Go.Shelf

/-- The result is a fraction in lowest terms whose value has the property P. -/
def QRes (L : Nat) (P : Rat → Prop) (e : Ending) (W : World) : Prop :=
  ∃ (s : Option Addr) (c : Nat) (t : Option Addr) (d n m : Nat), e = .returned (.tuple #[.agg #[.slice s (M.dig n).length c, .slice t (M.dig m).length d], .int .i64 0]) ∧ Row W s (M.dig n) c ∧ Row W t (M.dig m) d ∧ Lo n m L ∧ P (Q n m)
section
variable {u v : Value} {x y z t L K N : Nat} {w : World}
theorem qAdd (hu : RatV w u x y) (hv : RatV w v z t) (hx : Lo x y L) (hz : Lo z t K) (hN : L + K + 1 ≤ N) (hN2 : N ≤ 200) :
    Calls Tryd.prog 56 #[u, v] w fun e W' => QRes N (fun r => r = Q x y + Q z t) e W' ∧ Below w.heap.size w W' := by
  obtain ⟨hy, hg, lx, ly⟩ := hx
  obtain ⟨ht, hg2, lz, lt⟩ := hz
  have l1 := M.dig_len_mul lx lt
  have l2 := M.dig_len_mul lz ly
  have l3 := M.dig_len_mul ly lt
  have l4 := M.dig_len_add (x := x * t) (y := z * y) (k := L + K) l1 (by omega)
  refine (ratAdd_fit hu hv (by omega) (by omega) (by omega) (by omega) hy ht hg hg2 (by omega) (by omega) (by omega) (by omega)).mono ?_
  rintro e W' ⟨⟨r, rfl, s, c, t', d, rfl, h1, h2⟩, hb⟩
  have hp := Nat.mul_pos hy ht
  exact ⟨⟨s, c, t', d, _, _, rfl, h1, h2, Lo.red hp (by omega) (by omega), by rw [Q_red hp, Q_add hy ht]⟩, hb⟩
theorem qMul (hu : RatV w u x y) (hv : RatV w v z t) (hx : Lo x y L) (hz : Lo z t K) (hN : L + K ≤ N) (hN2 : N ≤ 200) :
    Calls Tryd.prog 57 #[u, v] w fun e W' => QRes N (fun r => r = Q x y * Q z t) e W' ∧ Below w.heap.size w W' := by
  obtain ⟨hy, hg, lx, ly⟩ := hx
  obtain ⟨ht, hg2, lz, lt⟩ := hz
  have l1 := M.dig_len_mul lx lz
  have l3 := M.dig_len_mul ly lt
  refine (ratMul_fit hu hv (by omega) (by omega) (by omega) (by omega) hy ht hg hg2 (by omega) (by omega)).mono ?_
  rintro e W' ⟨⟨r, rfl, s, c, t', d, rfl, h1, h2⟩, hb⟩
  have hp := Nat.mul_pos hy ht
  exact ⟨⟨s, c, t', d, _, _, rfl, h1, h2, Lo.red hp (by omega) (by omega), by rw [Q_red hp, Q_mul hy ht]⟩, hb⟩
theorem qSub (hu : RatV w u x y) (hv : RatV w v z t) (hx : Lo x y L) (hz : Lo z t K) (hN : L + K ≤ N) (hN2 : N ≤ 200) (hle : z * y ≤ x * t) :
    Calls Tryd.prog 58 #[u, v] w fun e W' => QRes N (fun r => r + Q z t = Q x y) e W' ∧ Below w.heap.size w W' := by
  obtain ⟨hy, hg, lx, ly⟩ := hx
  obtain ⟨ht, hg2, lz, lt⟩ := hz
  have l1 := M.dig_len_mul lx lt
  have l2 := M.dig_len_mul lz ly
  have l3 := M.dig_len_mul ly lt
  have l4 := M.dig_len_mono (Nat.sub_le (x * t) (z * y))
  refine (ratSub_ge hu hv (by omega) (by omega) (by omega) (by omega) hy ht hg hg2 (by omega) (by omega) (by omega) hle).mono ?_
  rintro e W' ⟨⟨r, rfl, s, c, t', d, rfl, h1, h2⟩, hb⟩
  have hp := Nat.mul_pos hy ht
  exact ⟨⟨s, c, t', d, _, _, rfl, h1, h2, Lo.red hp (by omega) (by omega), by rw [Q_red hp]; exact Q_sub hy ht hle⟩, hb⟩
theorem qSub_lt (hu : RatV w u x y) (hv : RatV w v z t) (hx : Lo x y L) (hz : Lo z t K) (hN2 : L + K ≤ 200) (hlt : x * t < z * y) :
    Calls Tryd.prog 58 #[u, v] w fun e W' => e = .returned (.tuple #[.agg #[.slice none 0 0, .slice none 0 0], .int .i64 5]) ∧ Below w.heap.size w W' := by
  obtain ⟨hy, hg, lx, ly⟩ := hx
  obtain ⟨ht, hg2, lz, lt⟩ := hz
  have l1 := M.dig_len_mul lx lt
  have l2 := M.dig_len_mul lz ly
  have l3 := M.dig_len_mul ly lt
  exact ratSub_lt hu hv (by omega) (by omega) (by omega) (by omega) hy ht hg hg2 (by omega) (by omega) (by omega) hlt
theorem qDiv (hu : RatV w u x y) (hv : RatV w v z t) (hx : Lo x y L) (hz : Lo z t K) (hN : L + K ≤ N) (hN2 : N ≤ 200) (hz0 : 0 < z) :
    Calls Tryd.prog 60 #[u, v] w fun e W' => QRes N (fun r => r * Q z t = Q x y) e W' ∧ Below w.heap.size w W' := by
  obtain ⟨hy, hg, lx, ly⟩ := hx
  obtain ⟨ht, hg2, lz, lt⟩ := hz
  have l1 := M.dig_len_mul lx lt
  have l3 := M.dig_len_mul ly lz
  refine (ratDiv_fit hu hv (by omega) (by omega) (by omega) (by omega) hy ht hz0 hg hg2 (by omega) (by omega)).mono ?_
  rintro e W' ⟨⟨r, rfl, s, c, t', d, rfl, h1, h2⟩, hb⟩
  have hp := Nat.mul_pos hy hz0
  exact ⟨⟨s, c, t', d, _, _, rfl, h1, h2, Lo.red hp (by omega) (by omega), by rw [Q_red hp]; exact Q_div hy ht hz0⟩, hb⟩
theorem qSame (hu : RatV w u x y) (hv : RatV w v z t) (hx : Lo x y L) (hz : Lo z t K) (h : Q x y = Q z t) :
    Calls Tryd.prog 53 #[u, v] w fun e W' => e = .returned (.bool true) ∧ Below w.heap.size w W' := by
  have e := (Lo.same hx hz).2 h
  refine (ratSame_is hu hv).mono ?_
  rintro e W' ⟨rfl, hb⟩
  exact ⟨by rw [decide_eq_true e], hb⟩
theorem qValid (hu : RatV w u x y) (hx : Lo x y L) (hL : L ≤ 200) :
    Calls Tryd.prog 59 #[u] w fun e W' => e = .returned (.bool true) ∧ Below w.heap.size w W' :=
  ratValid_yes hu hx.1 hx.2.1 (Nat.le_trans hx.2.2.1 hL) (Nat.le_trans hx.2.2.2 hL)
end
theorem qOf (x : Nat) (w : World) (hx : x < 16777216) :
    Calls Tryd.prog 55 #[.int .i64 (x : Int), .int .i64 1] w fun e W' => QRes 1 (fun r => r = Q x 1) e W' ∧ Below w.heap.size w W' := by
  refine (show Calls Tryd.prog 55 #[.int .i64 (x : Int), .int .i64 1] w _ from rratOf_any x 1 w (by omega) (by decide) (by decide)).mono ?_
  rintro e W' ⟨⟨r, rfl, s, c, t', d, rfl, h1, h2⟩, hb⟩
  exact ⟨⟨s, c, t', d, _, _, rfl, h1, h2, Lo.red (by decide) (M.dig_len_le.2 (by omega)) (M.dig_len_le.2 (by decide)), by rw [Q_red (by decide)]⟩, hb⟩
end Go.Proofs.YtfaggdjoogpmmaaDoor

namespace Go.Proofs.YtfaggdjoogpmmaaDoor
open Go Go.RowKit Go.Shelf

set_option maxRecDepth 100000 in
set_option maxHeartbeats 2000000 in
/-- **ratio.Divide** by 0. -/
theorem ratDiv_zero {u v : Value} {x y z t : Nat} {w : World} (hu : RatV w u x y) (hv : RatV w v z t) (hx : (M.dig x).length ≤ 200) (hy : (M.dig y).length ≤ 200) (hz : (M.dig z).length ≤ 200) (ht : (M.dig t).length ≤ 200) (hy0 : 0 < y) (ht0 : 0 < t) (hz0 : z = 0) (hg1 : Nat.gcd x y = 1) (hg2 : Nat.gcd z t = 1) :
    Calls Tryd.prog 60 #[u, v] w fun e W' => e = .returned (.tuple #[.agg #[.slice none 0 0, .slice none 0 0], .int .i64 4]) ∧ Below w.heap.size w W' := by
  obtain ⟨a, ca, b, cb, rfl, hA, hB⟩ := hu
  obtain ⟨c, cc, d, cd, rfl, hC, hD⟩ := hv
  have HS := Lib.hid (R2St.start hA hB hC hD)
  have HZN := Lib.hid (show (((M.dig z).length : Int) == 0) = true from by rw [hz0, M.dig_zero]; rfl)
  have HG1 := Lib.hid hg1
  have HG2 := Lib.hid hg2
  clear hA hB hC hD hg1 hg2 hz0
  go_enter Tryd.func60, Tryd.ntmps60
  have p0 := HS.out.p0
  have p1 := HS.out.p1
  go_wp2_with fail
  generalize (((w.alloc (.cells #[.slice a (M.dig x).length ca, .slice b (M.dig y).length cb] 58)).alloc (.cells #[.slice c (M.dig z).length cc, .slice d (M.dig t).length cd] 58)).alloc (.cells #[.slice none 0 0, .slice none 0 0] 58)) = w3 at *
  refine (show Calls Tryd.prog 59 _ _ _ from ratValid_yes (x := x) (y := y) ⟨a, ca, b, cb, rfl, HS.out.ra, HS.out.rb⟩ hy0 HG1.out hx hy).mono ?_
  rintro e w4 ⟨rfl, hb4⟩
  have HS4 := Lib.hid (HS.out.keep hb4)
  clear hb4 p0 p1 HS
  have q0 := HS4.out.q0
  have q1 := HS4.out.q1
  go_wp2_with fail
  refine (show Calls Tryd.prog 59 _ _ _ from ratValid_yes (x := z) (y := t) ⟨c, cc, d, cd, rfl, HS4.out.rc, HS4.out.rd⟩ ht0 HG2.out hz ht).mono ?_
  rintro e w5 ⟨rfl, hb5⟩
  have HS5 := Lib.hid (HS4.out.keep hb5)
  clear hb5 q0 q1 HS4
  have q0 := HS5.out.q0
  go_wp2_with fail
  refine (isZero_any c cc z _).mono ?_
  rintro e w7 ⟨rfl, hb7⟩
  rw [HZN.out]
  have HS7 := Lib.hid (HS5.out.keep hb7)
  clear hb7 q0 HS5
  have HR := Lib.hid HS7.out.none
  have r0 := HS7.out.r0
  have r1 := HS7.out.r1
  have f0 := HS7.out.f0
  have f1 := HS7.out.f1
  clear HS7
  go_wp2_with fail
  refine bodyPost_ret (v := .tuple #[.agg #[.slice none 0 0, .slice none 0 0], .int .i64 4]) (by simp [results, Tryd.results60, go_sem, r0, r1]) rfl ⟨rfl, HR.out⟩
theorem qDiv_zero {u v : Value} {x y z t L K : Nat} {w : World} (hu : RatV w u x y) (hv : RatV w v z t) (hx : Lo x y L) (hz : Lo z t K) (hL : L ≤ 200) (hK : K ≤ 200) (hz0 : z = 0) :
    Calls Tryd.prog 60 #[u, v] w fun e W' => e = .returned (.tuple #[.agg #[.slice none 0 0, .slice none 0 0], .int .i64 4]) ∧ Below w.heap.size w W' :=
  ratDiv_zero hu hv (Nat.le_trans hx.2.2.1 hL) (Nat.le_trans hx.2.2.2 hL) (Nat.le_trans hz.2.2.1 hK) (Nat.le_trans hz.2.2.2 hK) hx.1 hz.1 hz0 hx.2.1 hz.2.1
end Go.Proofs.YtfaggdjoogpmmaaDoor

namespace Go.Proofs.YtfaggdjoogpmmaaDoor
open Go Go.ChangeShapes Go.WideShapes Go.ChangeAt Go.RowKit

theorem own : ownKnob Tryd.prog.godebug = none := by kernel_rfl

section
variable {H : Type} {enc : TypeId × Value → H} {P : Program}
/-- The row's post where all that lay before the call lies as it lay. -/
theorem post_below {f : Func} {s : ChangeSpec} {apart fresh handsOn again : Bool} {W W' : World} {args : Array Value} {v : Value} {ds gs : List (DataW H)} {before pa pv : List MemPlace}
    (hW : DataW.Whole enc P f.params.toList s.vars apart W args.toList ds gs before) (hb : Below W.heap.size W W') (hps : before = pa ++ pv)
    (hres : ∀ (b : Nat) (sp : Nat → Bool) (hd : Bool), DataW.TrodAll enc P W' b sp hd f.resultTypes.toList (v.resultList f.resultTypes.size) (s.fn H (ds ++ gs)).results [])
    (hargs : ∀ sp : Nat → Bool, (∀ p ∈ before, sp p.block = true) → DataW.TrodAll enc P W' 0 sp true f.params.toList args.toList (s.fn H (ds ++ gs)).args pa)
    (hvars : ∀ sp : Nat → Bool, (∀ p ∈ before, sp p.block = true) → DataW.TrodVars enc P W' sp s.vars (s.fn H (ds ++ gs)).vars pv)
    (hok : ∀ (j : Nat) (t : TypeId) (r : Value), f.resultTypes[j]? = some t → (v.resultList f.resultTypes.size)[j]? = some r → Value.okWide P W' .any 0 t r) :
    s.post enc P f apart fresh handsOn again W args v W' := by
  have hlt : ∀ p ∈ before, p.block < W.heap.size := fun p hp => hW.lt p hp
  have hall : ∀ p ∈ before, (fun b => decide (b < W.heap.size)) p.block = true := fun p hp => by simpa using hlt p hp
  obtain ⟨_, _, _, _, _, hz, hn⟩ := id hW
  refine ⟨ds, gs, before, [], pa, pv, hW, hres _ _ _, hargs _ hall, hvars _ hall, World.keptBut_mono (fun p hp => ⟨hp, by rw [hps, List.mem_append] at hp; exact .inr hp⟩) (hb.frame (· ∈ before)), fun _ => ⟨hok, _, _, ([] ++ pa) ++ pv, ⟨[] ++ pa, pv, trodAll_append (hargs _ (fun _ _ => rfl)) (hres _ _ _), hvars _ (fun _ _ => rfl), rfl, ?_, ?_⟩, ?_⟩⟩
  · intro b off hp
    have hin : MemPlace.cell b off ∈ before := by rw [hps]; simpa using hp
    exact (hb.frozen (hlt _ hin)).trans (hz b off hin)
  · intro ha
    have := hn ha
    rw [hps] at this
    simpa using this
  · intro p hp _
    rw [hps]
    simpa using hp
end

def layFirst : Obj → Obj
  | .cells _ t frozen => .cells (Go.Pinned.utf8FirstZ.map fun (n : Nat) => Value.int .u8 (n : Int)).toArray t frozen
  | o => o
def layRanges : Obj → Obj
  | .cells _ t frozen => .cells #[.int .u8 128, .int .u8 191, .int .u8 160, .int .u8 191, .int .u8 128, .int .u8 159, .int .u8 144, .int .u8 191, .int .u8 128, .int .u8 143, .int .u8 0, .int .u8 0, .int .u8 0, .int .u8 0, .int .u8 0, .int .u8 0, .int .u8 0, .int .u8 0, .int .u8 0, .int .u8 0, .int .u8 0, .int .u8 0, .int .u8 0, .int .u8 0, .int .u8 0, .int .u8 0, .int .u8 0, .int .u8 0, .int .u8 0, .int .u8 0, .int .u8 0, .int .u8 0] t frozen
  | o => o
/-- A world for the start: the settled one, Go's two tables in their blocks. -/
noncomputable def startWorld (os : Os) (blocks : Array Obj) : World :=
  { World.holding Tryd.prog os ⟨blocks, #[], []⟩ with heap := ((World.holding Tryd.prog os ⟨blocks, #[], []⟩).heap.modify 0 layFirst).modify 1 layRanges }
end Go.Proofs.YtfaggdjoogpmmaaDoor

namespace Go.Proofs.YtfaggdjoogpmmaaDoor
open Go Go.ChangeShapes Go.WideShapes Go.ChangeAt Go.RowKit

theorem cells_int : Tryd.prog.cellsOf 3 = 1 := by kernel_rfl

set_option maxRecDepth 100000 in
theorem slice_param {H : Type} {enc : TypeId × Value → H} {W : World} {base : Nat} {v : Value} {d : DataW H} {p : List MemPlace}
    (hv : Value.okWide Tryd.prog W .any base 22 v) (hd : DataW.Trod enc Tryd.prog W 0 (fun _ => true) true 22 v d p) :
    ∃ (a : Option Addr) (ts : List Int) (cap : Nat), v = .slice a ts.length cap ∧ Row W a ts cap ∧
      ∀ (W' : World) (sp : Nat → Bool), Below W.heap.size W W' → (∀ q ∈ p, sp q.block = true) → DataW.Trod enc Tryd.prog W' 0 sp true 22 v d p := by
  obtain ⟨a0, len, cap, rfl⟩ := okWide_slice Tryd.underlying22 hv
  obtain ⟨fuel, hf⟩ := hd
  rcases open_ints Tryd.underlying22 Tryd.underlying3 cells_int hf with ⟨hcs, hx⟩ | ⟨a, len', cap', zs, hcs, _, hl, hm, hz, hx, hcell, hwz⟩
  · simp [Value.cells] at hcs
    obtain ⟨rfl, rfl, rfl⟩ := hcs
    simp only [Prod.mk.injEq] at hx
    obtain ⟨rfl, rfl⟩ := hx
    exact ⟨none, [], 0, rfl, ⟨Nat.le_refl _, by omega, fun j hj => by simp at hj⟩, fun _ _ _ _ => shut_slice_nil Tryd.underlying22⟩
  · simp [Value.cells] at hcs
    obtain ⟨rfl, rfl, rfl⟩ := hcs
    simp only [Prod.mk.injEq] at hx
    obtain ⟨rfl, rfl⟩ := hx
    rw [if_pos rfl] at hz
    have e1 : (zs.take len).length = len := by rw [List.length_take]; omega
    refine ⟨some a, zs.take len, cap, by rw [e1], ⟨by omega, by unfold maxLen at hm; omega, fun j hj => ?_⟩, fun W' sp hb hsp => ?_⟩
    · obtain ⟨b, off, rfl, hc⟩ := ints_at hcell (by omega)
      refine ⟨b, off, rfl, ?_⟩
      rw [hc j (by omega), M.el_take (by omega)]
      rfl
    · refine ⟨2, shut_ints 0 Tryd.underlying22 Tryd.underlying3 cells_int (Nat.zero_le _) hl hm ?_ (fun i hi => (hb.cell (p := a.add i) (lt_of_cell (hcell i hi))).trans (hcell i hi)) hwz⟩
      by_cases h0 : 0 < zs.length
      · rw [if_pos]
        · exact hz
        · refine hsp (.cell a.block (a.off + 0)) ?_
          unfold MemPlace.row
          exact List.mem_map.2 ⟨0, List.mem_range.2 h0, rfl⟩
      · split <;> omega
end Go.Proofs.YtfaggdjoogpmmaaDoor
