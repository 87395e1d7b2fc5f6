/- Dice.Shape. -/
import Derived.Test.YtememimblalkfaaPValid
import Derived.Test.YtememimblalkfaaPReg
import Derived.Test.YtememimblalkfaaGDice
namespace Go.Proofs.Ytememimblalkfaa.P
open Go Go.RowKit Go.Shelf
open G
set_option maxRecDepth 100000 in
set_option maxHeartbeats 1000000 in
theorem shape_any (w : World) (dp : Nat) (a : Option Addr) (cap : Nat) (ts : List Int) (k most : Nat) (hm : most ≤ 12) (hD : Dice w dp a cap ts k) :
    Calls Try.prog 8 #[.pointer (some ⟨dp, 0, none⟩), .int .i64 (most : Int)] w fun e W => ∃ (x : Nat → Int) (k' : Nat), e = .returned (.agg #[.int .i64 (x 0), .int .i64 (x 1), .int .i64 (x 2), .int .i64 (x 3), .int .i64 (x 4), .int .i64 (x 5)]) ∧ okB x = true ∧ tm x 6 ≤ most ∧ Dice W dp a cap ts k' ∧ w.grownBy W (some dp) := by
  have hsr := (Six.new w 28 (fun _ => 0)).alloc (.cells #[.int .i64 0, .int .i64 0, .int .i64 0, .int .i64 0, .int .i64 0, .int .i64 0] 37)
  have hsp := Six.new (w.alloc (.cells #[.int .i64 0, .int .i64 0, .int .i64 0, .int .i64 0, .int .i64 0, .int .i64 0] 28)) 37 (fun _ => 0)
  have hd1 := (hD.alloc (.cells #[.int .i64 0, .int .i64 0, .int .i64 0, .int .i64 0, .int .i64 0, .int .i64 0] 28)).alloc (.cells #[.int .i64 0, .int .i64 0, .int .i64 0, .int .i64 0, .int .i64 0, .int .i64 0] 37)
  have hg1 := grown_alloc (grown_alloc (World.grownBy.refl w (some dp)) (.cells #[.int .i64 0, .int .i64 0, .int .i64 0, .int .i64 0, .int .i64 0, .int .i64 0] 28)) (.cells #[.int .i64 0, .int .i64 0, .int .i64 0, .int .i64 0, .int .i64 0, .int .i64 0] 37)
  rw [World.size_alloc] at hsp
  obtain ⟨w1, hw1⟩ : ∃ w1, (w.alloc (.cells #[.int .i64 0, .int .i64 0, .int .i64 0, .int .i64 0, .int .i64 0, .int .i64 0] 28)).alloc (.cells #[.int .i64 0, .int .i64 0, .int .i64 0, .int .i64 0, .int .i64 0, .int .i64 0] 37) = w1 := ⟨_, rfl⟩
  rw [hw1] at hsr hsp hd1 hg1
  obtain ⟨r, hr⟩ : ∃ r, w.heap.size = r := ⟨_, rfl⟩
  have hdp : dp < r := by rw [← hr]; exact hD.lt
  have HF := Lib.hid hD.far
  have hsize : w.heap.size ≤ r := by omega
  rw [hr] at hsr hsp
  have HSR := Lib.hid hsr
  have HSP := Lib.hid hsp
  have HG1 := Lib.hid hg1
  have HSZ := Lib.hid hsize
  have HN := Lib.hid (show Calls Try.prog 13 #[.pointer (some ⟨dp, 0, none⟩), .int .i64 ((most : Int) + 1)] w1 (NextPost w1 dp a cap ts (most + 1)) from next_any w1 dp a cap ts k (most + 1) (by omega) (by omega) hd1)
  have hw : IntKind.i64.wrap ((most : Int) + 1) = (most : Int) + 1 := by rw [IntKind.wrap_i64]; omega
  clear hsr hsp hd1 hg1 hD hsize
  go_enter Try.func8, Try.ntmps8
  go_wp2_with fail
  refine HN.out.mono ?_
  rintro e w2 ⟨l, k2, hl, rfl, hd2, hg2⟩
  have HS0 := Lib.hid (And.intro hd2 (And.intro (grown_trans HG1.out hg2) (And.intro (HSR.out.grown hg2 (by intro e; cases e; omega)) (HSP.out.grown hg2 (by intro e; cases e; omega)))))
  clear hd2 hg2 HG1 HN HSR HSP
  go_wp2_with fail
  go_loopw [6] (fun i wr => ∃ (l : Nat) (z : Nat → Int) (k' : Nat), i = .int .i64 (l : Int) ∧ l ≤ 12 ∧ Hid ((∀ j, j < 6 → 0 ≤ z j) ∧ sm z 6 + (l : Int) ≤ (most : Int)) ∧ Hid (Dice wr dp a cap ts k' ∧ w.grownBy wr (some dp) ∧ Six wr r 28 (fun _ => 0) ∧ Six wr (r + 1) 37 z)) (fun i _ => (intOf i).toNat)
  case atStart => exact ⟨l, fun _ => 0, k2, rfl, by omega, Lib.hid ⟨fun _ _ => Int.le_refl _, by rw [sm_const]; omega⟩, HS0⟩
  case round =>
    obtain ⟨l, z, k', rfl, hl12, HZ, HS⟩ := hrel
    cases l with
    | zero =>
      obtain ⟨c0, c1, c2, c3, c4, c5⟩ := HS.out.2.2.2.all
      obtain ⟨d0, d1, d2, d3, d4, d5⟩ := HS.out.2.2.1.all
      obtain ⟨f0, f1, f2, f3, f4, f5⟩ := HS.out.2.2.1.frees
      go_wp2_with fail
      have hbw : Below w.heap.size wr (put6 wr r z) := put6_below (Below.refl _ wr) HSZ.out z
      obtain ⟨hp0, hp1, hp2, hp3, hp4, hp5⟩ := (put6_six HS.out.2.2.1 z).all
      have hok := ok_sum HZ.out.1 (by have := HZ.out.2; omega) hm
      have hfin := And.intro (HS.out.1.belowAt hbw (by omega) HF.out) (grown_then HS.out.2.1 hbw)
      unfold put6 at hp0 hp1 hp2 hp3 hp4 hp5 hfin
      exact bodyPost_ret (v := .agg #[.int .i64 (z 0), .int .i64 (z 1), .int .i64 (z 2), .int .i64 (z 3), .int .i64 (z 4), .int .i64 (z 5)]) (by simp [results, Try.results8, go_sem, hp0, hp1, hp2, hp3, hp4, hp5]) rfl ⟨z, k', rfl, hok.1, hok.2, hfin.1, hfin.2⟩
    | succ l => 
      have HN := Lib.hid (show Calls Try.prog 13 #[.pointer (some ⟨dp, 0, none⟩), .int .i64 6] wr (NextPost wr dp a cap ts 6) from next_any wr dp a cap ts k' 6 (by omega) (by omega) HS.out.1)
      go_wp2_with fail
      refine HN.out.mono ?_
      rintro e w4 ⟨q, k4, hq, rfl, hd4, hg4⟩
      have hsp4 := HS.out.2.2.2.grown hg4 (by intro e; cases e; omega)
      have hc := hsp4.at q hq
      have hf := hsp4.free q
      have hzq := HZ.out.1 q hq
      have hzs := (le_sm HZ.out.1 hq).1
      have hz2 := HZ.out.2
      have hwz : IntKind.i64.wrap (z q + 1) = z q + 1 := by rw [IntKind.wrap_i64]; omega
      have hsp5 := hsp4.setAt (z := bump z q) q hq (fun j _ hj => (bump_ne z q hj).symm)
      rw [bump_at] at hsp5
      have hsr5 := (HS.out.2.2.1.grown hg4 (by intro e; cases e; omega)).other (q := ⟨r + 1, q, none⟩) (by show r + 1 ≠ r; omega) (.int .i64 (z q + 1))
      have hbw : Below w.heap.size w4 (w4.setCell ⟨r + 1, q, none⟩ (.int .i64 (z q + 1))) := (Below.refl _ w4).setCell (p := ⟨r + 1, q, none⟩) (by show w.heap.size ≤ r + 1; have := HSZ.out; omega) _
      have HS5 := Lib.hid (And.intro (hd4.belowAt hbw (by have := HSZ.out; omega) HF.out) (And.intro (grown_then (grown_trans HS.out.2.1 hg4) hbw) (And.intro hsr5 hsp5)))
      have HZ5 : Hid ((∀ j, j < 6 → 0 ≤ bump z q j) ∧ sm (bump z q) 6 + (l : Int) ≤ (most : Int)) := Lib.hid ⟨fun j hj => by
        by_cases e : j = q
        · subst e; rw [bump_at]; omega
        · rw [bump_ne z q e]; exact HZ.out.1 j hj, by rw [sm_bump, if_pos hq]; have := HZ.out.2; omega⟩
      clear hsp4 hsp5 hsr5 hbw hd4 hg4 HN HS HZ hzq hzs hz2
      go_wp2_with fail
      go_round
      case rel => exact ⟨l, bump z q, k4, by go_num, by omega, HZ5, HS5⟩
      case measure => simp [intOf]
end Go.Proofs.Ytememimblalkfaa.P
