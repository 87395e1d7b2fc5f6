/- Dice.Place. -/
import Derived.Test.YtdgkdoccllolpaaDoorPShape
import Derived.Deep.RegionHeld
import Derived.Deep.DeepMust
import Derived.Deep.RegionLaw
namespace Go.Proofs.YtdgkdoccllolpaaDoor.P
open Go Go.RowKit Go.Shelf
open G
def yv (a b c d e f : Int) : Nat → Int
  | 0 => a
  | 1 => b
  | 2 => c
  | 3 => d
  | 4 => e
  | _ => f
section
attribute [local semireducible] Inn
theorem inn_of {x y : Nat → Int} (h : ∀ j, j < 6 → 0 ≤ y j ∧ y j < (pw (wd x j) : Int)) : Inn x y 6 := h
end
set_option maxRecDepth 100000 in
set_option maxHeartbeats 8000000 in
theorem place_nat (w : World) (dp : Nat) (a : Option Addr) (cap : Nat) (ts : List Int) (k : Nat) (u : Nat → Nat) (hu : ∀ j, j < 6 → u j ≤ 12) (hD : Dice w dp a cap ts k) :
    Calls Tryd.prog 16 #[.pointer (some ⟨dp, 0, none⟩), .agg #[.int .i64 (u 0 : Int), .int .i64 (u 1 : Int), .int .i64 (u 2 : Int), .int .i64 (u 3 : Int), .int .i64 (u 4 : Int), .int .i64 (u 5 : Int)]] w fun e W => ∃ (y : Nat → Int) (k' : Nat), e = .returned (.agg #[.int .i64 (y 0), .int .i64 (y 1), .int .i64 (y 2), .int .i64 (y 3), .int .i64 (y 4), .int .i64 (y 5)]) ∧ (∀ j, j < 6 → 0 ≤ y j ∧ y j < (pw (u j) : Int)) ∧ Dice W dp a cap ts k' ∧ w.grownBy W (some dp) := by
  have hq := (Six.new w 23 (fun j => (u j : Int))).alloc (.cells #[.int .i64 0, .int .i64 0, .int .i64 0, .int .i64 0, .int .i64 0, .int .i64 0] 24)
  have hr := Six.new (w.alloc (.cells #[.int .i64 (u 0 : Int), .int .i64 (u 1 : Int), .int .i64 (u 2 : Int), .int .i64 (u 3 : Int), .int .i64 (u 4 : Int), .int .i64 (u 5 : Int)] 23)) 24 (fun _ => 0)
  have hd := (hD.alloc (.cells #[.int .i64 (u 0 : Int), .int .i64 (u 1 : Int), .int .i64 (u 2 : Int), .int .i64 (u 3 : Int), .int .i64 (u 4 : Int), .int .i64 (u 5 : Int)] 23)).alloc (.cells #[.int .i64 0, .int .i64 0, .int .i64 0, .int .i64 0, .int .i64 0, .int .i64 0] 24)
  have hg := grown_alloc (grown_alloc (World.grownBy.refl w (some dp)) (.cells #[.int .i64 (u 0 : Int), .int .i64 (u 1 : Int), .int .i64 (u 2 : Int), .int .i64 (u 3 : Int), .int .i64 (u 4 : Int), .int .i64 (u 5 : Int)] 23)) (.cells #[.int .i64 0, .int .i64 0, .int .i64 0, .int .i64 0, .int .i64 0, .int .i64 0] 24)
  rw [World.size_alloc] at hr
  obtain ⟨w9, hw9⟩ : ∃ w9, (w.alloc (.cells #[.int .i64 (u 0 : Int), .int .i64 (u 1 : Int), .int .i64 (u 2 : Int), .int .i64 (u 3 : Int), .int .i64 (u 4 : Int), .int .i64 (u 5 : Int)] 23)).alloc (.cells #[.int .i64 0, .int .i64 0, .int .i64 0, .int .i64 0, .int .i64 0, .int .i64 0] 24) = w9 := ⟨_, rfl⟩
  rw [hw9] at hq hr hd hg
  obtain ⟨p, hp⟩ : ∃ p, w.heap.size = p := ⟨_, rfl⟩
  have hdp : dp < p := by rw [← hp]; exact hD.lt
  have hsize : w.heap.size ≤ p := by omega
  have HF := Lib.hid hD.far
  rw [hp] at hq hr
  obtain ⟨c0, c1, c2, c3, c4, c5⟩ := hq.all
  have HQ := Lib.hid (show Six w9.drew _ _ _ from hq.drewN 1)
  have HR := Lib.hid (show Six w9.drew _ _ _ from hr.drewN 1)
  have HD0 := Lib.hid (show Dice w9.drew dp a cap ts k from hd.drewN 1)
  have HG := Lib.hid (show w.grownBy w9.drew (some dp) from grown_drewN hg 1)
  have HSZ := Lib.hid hsize
  have HN := Lib.hid (fun W k j (hj : j < 6) (hD : Dice W dp a cap ts k) => next_any W dp a cap ts k (pw (u j)) (pw_pos _) (by have := pw_12 (hu j hj); omega) hD)
  have hs0 : IntKind.i64.wrap (2 ^ min (u 0) 64) = (pw (u 0) : Int) := by have h := hu 0 (by decide); rw [Nat.min_eq_left (by omega)]; exact shl_one h
  have hs1 : IntKind.i64.wrap (2 ^ min (u 1) 64) = (pw (u 1) : Int) := by have h := hu 1 (by decide); rw [Nat.min_eq_left (by omega)]; exact shl_one h
  have hs2 : IntKind.i64.wrap (2 ^ min (u 2) 64) = (pw (u 2) : Int) := by have h := hu 2 (by decide); rw [Nat.min_eq_left (by omega)]; exact shl_one h
  have hs3 : IntKind.i64.wrap (2 ^ min (u 3) 64) = (pw (u 3) : Int) := by have h := hu 3 (by decide); rw [Nat.min_eq_left (by omega)]; exact shl_one h
  have hs4 : IntKind.i64.wrap (2 ^ min (u 4) 64) = (pw (u 4) : Int) := by have h := hu 4 (by decide); rw [Nat.min_eq_left (by omega)]; exact shl_one h
  have hs5 : IntKind.i64.wrap (2 ^ min (u 5) 64) = (pw (u 5) : Int) := by have h := hu 5 (by decide); rw [Nat.min_eq_left (by omega)]; exact shl_one h
  have hw0' : IntKind.u64.wrap (u 0 : Int) = (u 0 : Int) := by have := hu 0 (by decide); rw [IntKind.wrap_u64]; omega
  have hw1' : IntKind.u64.wrap (u 1 : Int) = (u 1 : Int) := by have := hu 1 (by decide); rw [IntKind.wrap_u64]; omega
  have hw2' : IntKind.u64.wrap (u 2 : Int) = (u 2 : Int) := by have := hu 2 (by decide); rw [IntKind.wrap_u64]; omega
  have hw3' : IntKind.u64.wrap (u 3 : Int) = (u 3 : Int) := by have := hu 3 (by decide); rw [IntKind.wrap_u64]; omega
  have hw4' : IntKind.u64.wrap (u 4 : Int) = (u 4 : Int) := by have := hu 4 (by decide); rw [IntKind.wrap_u64]; omega
  have hw5' : IntKind.u64.wrap (u 5 : Int) = (u 5 : Int) := by have := hu 5 (by decide); rw [IntKind.wrap_u64]; omega
  clear hq hr hd hg hD hsize hu
  go_enter Tryd.func16, Tryd.ntmps16
  go_wp2_with fail
  go_region_held (fun W' : World => W'.cell? ⟨p, 0, none⟩ = some (.int .i64 (u 0 : Int)) ∧ W'.cell? ⟨p, 1, none⟩ = some (.int .i64 (u 1 : Int)) ∧ W'.cell? ⟨p, 2, none⟩ = some (.int .i64 (u 2 : Int)) ∧ W'.cell? ⟨p, 3, none⟩ = some (.int .i64 (u 3 : Int)) ∧ W'.cell? ⟨p, 4, none⟩ = some (.int .i64 (u 4 : Int)) ∧ W'.cell? ⟨p, 5, none⟩ = some (.int .i64 (u 5 : Int))) (go_keep) (first
        | (go_simp; go_at_call 17; (with_reducible refine (HN.out _ _ 0 (by decide) HD0.out).mono ?_); go_must (
            rintro e w0 ⟨r0, k0, hr0, rfl, hd0, hg0⟩
            have HE0 := Lib.hid hd0
            have hq0 := HQ.out.grown hg0 (by intro e; cases e; omega)
            have hr'0 := HR.out.grown hg0 (by intro e; cases e; omega)
            have HQ0 := Lib.hid hq0
            have HR0 := Lib.hid hr'0
            have HG0 := Lib.hid hg0
            have HL0 := Lib.hid hr0
            obtain ⟨c00, c01, c02, c03, c04, c05⟩ := hq0.all
            clear hd0 hg0 hq0 hr0 hr'0
            go_simp))
        | (go_simp; go_at_call 17; (with_reducible refine (HN.out _ _ 1 (by decide) HE0.out).mono ?_); go_must (
            rintro e w1 ⟨r1, k1, hr1, rfl, hd1, hg1⟩
            have HE1 := Lib.hid hd1
            have hq1 := HQ0.out.grown hg1 (by intro e; cases e; omega)
            have hr'1 := HR0.out.grown hg1 (by intro e; cases e; omega)
            have HQ1 := Lib.hid hq1
            have HR1 := Lib.hid hr'1
            have HG1 := Lib.hid hg1
            have HL1 := Lib.hid hr1
            obtain ⟨c10, c11, c12, c13, c14, c15⟩ := hq1.all
            clear hd1 hg1 hq1 hr1 hr'1
            go_simp))
        | (go_simp; go_at_call 17; (with_reducible refine (HN.out _ _ 2 (by decide) HE1.out).mono ?_); go_must (
            rintro e w2 ⟨r2, k2, hr2, rfl, hd2, hg2⟩
            have HE2 := Lib.hid hd2
            have hq2 := HQ1.out.grown hg2 (by intro e; cases e; omega)
            have hr'2 := HR1.out.grown hg2 (by intro e; cases e; omega)
            have HQ2 := Lib.hid hq2
            have HR2 := Lib.hid hr'2
            have HG2 := Lib.hid hg2
            have HL2 := Lib.hid hr2
            obtain ⟨c20, c21, c22, c23, c24, c25⟩ := hq2.all
            clear hd2 hg2 hq2 hr2 hr'2
            go_simp))
        | (go_simp; go_at_call 17; (with_reducible refine (HN.out _ _ 3 (by decide) HE2.out).mono ?_); go_must (
            rintro e w3 ⟨r3, k3, hr3, rfl, hd3, hg3⟩
            have HE3 := Lib.hid hd3
            have hq3 := HQ2.out.grown hg3 (by intro e; cases e; omega)
            have hr'3 := HR2.out.grown hg3 (by intro e; cases e; omega)
            have HQ3 := Lib.hid hq3
            have HR3 := Lib.hid hr'3
            have HG3 := Lib.hid hg3
            have HL3 := Lib.hid hr3
            obtain ⟨c30, c31, c32, c33, c34, c35⟩ := hq3.all
            clear hd3 hg3 hq3 hr3 hr'3
            go_simp))
        | (go_simp; go_at_call 17; (with_reducible refine (HN.out _ _ 4 (by decide) HE3.out).mono ?_); go_must (
            rintro e w4 ⟨r4, k4, hr4, rfl, hd4, hg4⟩
            have HE4 := Lib.hid hd4
            have hq4 := HQ3.out.grown hg4 (by intro e; cases e; omega)
            have hr'4 := HR3.out.grown hg4 (by intro e; cases e; omega)
            have HQ4 := Lib.hid hq4
            have HR4 := Lib.hid hr'4
            have HG4 := Lib.hid hg4
            have HL4 := Lib.hid hr4
            obtain ⟨c40, c41, c42, c43, c44, c45⟩ := hq4.all
            clear hd4 hg4 hq4 hr4 hr'4
            go_simp))
        | (go_simp; go_at_call 17; (with_reducible refine (HN.out _ _ 5 (by decide) HE4.out).mono ?_); go_must (
            rintro e w5 ⟨r5, k5, hr5, rfl, hd5, hg5⟩
            have HE5 := Lib.hid hd5
            have hq5 := HQ4.out.grown hg5 (by intro e; cases e; omega)
            have hr'5 := HR4.out.grown hg5 (by intro e; cases e; omega)
            have HQ5 := Lib.hid hq5
            have HR5 := Lib.hid hr'5
            have HG5 := Lib.hid hg5
            have HL5 := Lib.hid hr5
            obtain ⟨c50, c51, c52, c53, c54, c55⟩ := hq5.all
            obtain ⟨d0, d1, d2, d3, d4, d5⟩ := hr'5.all
            obtain ⟨f0, f1, f2, f3, f4, f5⟩ := hr'5.frees
            clear hd5 hg5 hq5 hr5 hr'5
            go_simp)))
  have hbw : Below w.heap.size w5 (put6 w5 (p + 1) (yv (r0 : Int) (r1 : Int) (r2 : Int) (r3 : Int) (r4 : Int) (r5 : Int))) := put6_below (Below.refl _ w5) (by have := HSZ.out; omega) _
  have hall := (put6_six HR5.out (yv (r0 : Int) (r1 : Int) (r2 : Int) (r3 : Int) (r4 : Int) (r5 : Int))).all
  have hfin := And.intro (HE5.out.belowAt hbw (by have := HSZ.out; omega) HF.out) (grown_then (grown_trans (grown_trans (grown_trans (grown_trans (grown_trans (grown_trans HG.out HG0.out) HG1.out) HG2.out) HG3.out) HG4.out) HG5.out) hbw)
  simp only [put6, yv] at hall hfin
  obtain ⟨hp0, hp1, hp2, hp3, hp4, hp5⟩ := hall
  have HY : Hid (∀ j, j < 6 → 0 ≤ (yv (r0 : Int) (r1 : Int) (r2 : Int) (r3 : Int) (r4 : Int) (r5 : Int)) j ∧ (yv (r0 : Int) (r1 : Int) (r2 : Int) (r3 : Int) (r4 : Int) (r5 : Int)) j < (pw (u j) : Int)) := Lib.hid (fun j hj => by
    have h0 := HL0.out
    have h1 := HL1.out
    have h2 := HL2.out
    have h3 := HL3.out
    have h4 := HL4.out
    have h5 := HL5.out
    obtain rfl | rfl | rfl | rfl | rfl | rfl : j = 0 ∨ j = 1 ∨ j = 2 ∨ j = 3 ∨ j = 4 ∨ j = 5 := by omega
    all_goals (simp only [yv]; omega))
  go_wp2_with fail
  exact bodyPost_ret (v := .agg #[.int .i64 (r0 : Int), .int .i64 (r1 : Int), .int .i64 (r2 : Int), .int .i64 (r3 : Int), .int .i64 (r4 : Int), .int .i64 (r5 : Int)]) (by simp [results, Tryd.results16, go_sem, hp0, hp1, hp2, hp3, hp4, hp5]) rfl ⟨(yv (r0 : Int) (r1 : Int) (r2 : Int) (r3 : Int) (r4 : Int) (r5 : Int)), k5, rfl, HY.out, hfin.1, hfin.2⟩
theorem place_any (w : World) (dp : Nat) (a : Option Addr) (cap : Nat) (ts : List Int) (k : Nat) (x : Nat → Int) (hx : okB x = true) (hD : Dice w dp a cap ts k) :
    Calls Tryd.prog 16 #[.pointer (some ⟨dp, 0, none⟩), .agg #[.int .i64 (x 0), .int .i64 (x 1), .int .i64 (x 2), .int .i64 (x 3), .int .i64 (x 4), .int .i64 (x 5)]] w fun e W => ∃ (y : Nat → Int) (k' : Nat), e = .returned (.agg #[.int .i64 (y 0), .int .i64 (y 1), .int .i64 (y 2), .int .i64 (y 3), .int .i64 (y 4), .int .i64 (y 5)]) ∧ Inn x y 6 ∧ Dice W dp a cap ts k' ∧ w.grownBy W (some dp) := by
  have ho := (ok_yes hx).1
  have h := place_nat w dp a cap ts k (wd x) (fun j hj => (ho j hj).2) hD
  rw [← (ho 0 (by decide)).1, ← (ho 1 (by decide)).1, ← (ho 2 (by decide)).1, ← (ho 3 (by decide)).1, ← (ho 4 (by decide)).1, ← (ho 5 (by decide)).1] at h
  exact h.mono fun e W ⟨y, k', h1, h2, h3, h4⟩ => ⟨y, k', h1, inn_of h2, h3, h4⟩
end Go.Proofs.YtdgkdoccllolpaaDoor.P
