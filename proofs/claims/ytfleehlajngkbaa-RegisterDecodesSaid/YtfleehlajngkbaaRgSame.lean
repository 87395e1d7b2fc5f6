/- register.Same, ref11.Same. -/
import Derived.Test.YtfleehlajngkbaaRgCat
import Derived.Test.YtfleehlajngkbaaRgBox
namespace Go.Proofs.Ytfleehlajngkbaa.RG
open Go Go.RowKit Go.Shelf
open G P
theorem eql_shape (x y : Nat → Int) (w : World) :
    (binOp .eql 32 (.agg #[.int .i64 (x 0), .int .i64 (x 1), .int .i64 (x 2), .int .i64 (x 3), .int .i64 (x 4), .int .i64 (x 5)]) (.agg #[.int .i64 (y 0), .int .i64 (y 1), .int .i64 (y 2), .int .i64 (y 3), .int .i64 (y 4), .int .i64 (y 5)])).run Try.prog w = .ok (.bool (eqX x y)) w := by
  unfold eqX
  go_simp
  by_cases g0 : x 0 = y 0
  · by_cases g1 : x 1 = y 1
    · by_cases g2 : x 2 = y 2
      · by_cases g3 : x 3 = y 3
        · by_cases g4 : x 4 = y 4
          · by_cases g5 : x 5 = y 5
            · simp [g0, g1, g2, g3, g4, g5]
            · simp [g0, g1, g2, g3, g4, g5]
          · simp [g0, g1, g2, g3, g4]
        · simp [g0, g1, g2, g3]
      · simp [g0, g1, g2]
    · simp [g0, g1]
  · simp [g0]
set_option maxRecDepth 100000 in
set_option maxHeartbeats 1000000 in
theorem rsame_any (x y : Nat → Int) (a b : Option Addr) (R S : List V) (c d : Nat) (lo hi lo' hi' : Int) (w : World) (ha : Row w a R c) (hb : Row w b S d) :
    Calls Try.prog 14 #[.agg #[.int .i64 (x 0), .int .i64 (x 1), .int .i64 (x 2), .int .i64 (x 3), .int .i64 (x 4), .int .i64 (x 5), .slice a R.length c, .int .i64 lo, .int .i64 hi], .agg #[.int .i64 (y 0), .int .i64 (y 1), .int .i64 (y 2), .int .i64 (y 3), .int .i64 (y 4), .int .i64 (y 5), .slice b S.length d, .int .i64 lo', .int .i64 hi']] w fun e W => e = .returned (.bool (sameB x y R S lo hi lo' hi')) ∧ Below w.heap.size w W := by
  have hm := Mp.new w x (.slice a R.length c) lo hi
  have hm1 := hm.alloc (.cells #[.int .i64 (y 0), .int .i64 (y 1), .int .i64 (y 2), .int .i64 (y 3), .int .i64 (y 4), .int .i64 (y 5), .slice b S.length d, .int .i64 lo', .int .i64 hi'] 34)
  have hm2 := Mp.new (w.alloc (.cells #[.int .i64 (x 0), .int .i64 (x 1), .int .i64 (x 2), .int .i64 (x 3), .int .i64 (x 4), .int .i64 (x 5), .slice a R.length c, .int .i64 lo, .int .i64 hi] 34)) y (.slice b S.length d) lo' hi'
  rw [World.size_alloc] at hm2
  have hB := ((Below.refl _ w).alloc (Nat.le_refl _) (.cells #[.int .i64 (x 0), .int .i64 (x 1), .int .i64 (x 2), .int .i64 (x 3), .int .i64 (x 4), .int .i64 (x 5), .slice a R.length c, .int .i64 lo, .int .i64 hi] 34)).alloc (by simp) (.cells #[.int .i64 (y 0), .int .i64 (y 1), .int .i64 (y 2), .int .i64 (y 3), .int .i64 (y 4), .int .i64 (y 5), .slice b S.length d, .int .i64 lo', .int .i64 hi'] 34)
  obtain ⟨w2, hw2⟩ : ∃ w2, (w.alloc (.cells #[.int .i64 (x 0), .int .i64 (x 1), .int .i64 (x 2), .int .i64 (x 3), .int .i64 (x 4), .int .i64 (x 5), .slice a R.length c, .int .i64 lo, .int .i64 hi] 34)).alloc (.cells #[.int .i64 (y 0), .int .i64 (y 1), .int .i64 (y 2), .int .i64 (y 3), .int .i64 (y 4), .int .i64 (y 5), .slice b S.length d, .int .i64 lo', .int .i64 hi'] 34) = w2 := ⟨_, rfl⟩
  rw [hw2] at hm1 hm2 hB
  obtain ⟨p, hp⟩ : ∃ p, w.heap.size = p := ⟨_, rfl⟩
  rw [hp] at hm1 hm2
  have HE := Lib.hid (sameList_any a b c d R S w2 (ha.below hB) (hb.below hB))
  obtain ⟨c0, c1, c2, c3, c4, c5, c6, c7, c8⟩ := hm1.all
  obtain ⟨d0, d1, d2, d3, d4, d5, d6, d7, d8⟩ := hm2.all
  have HB := Lib.hid hB
  have hq := fun w => eql_shape x y w
  have ht : sameB x y R S lo hi lo' hi' = (eqX x y && decide (R = S) && decide (lo = lo') && decide (hi = hi')) := rfl
  generalize eqX x y = t1 at *
  generalize decide (R = S) = t2 at *
  have e3 : (lo == lo') = decide (lo = lo') := rfl
  have e4 : (hi == hi') = decide (hi = hi') := rfl
  generalize decide (lo = lo') = t3 at *
  generalize decide (hi = hi') = t4 at *
  have HT := Lib.hid ht
  clear hm hm1 hm2 hB ht ha hb
  cases t1 with
  | false =>
    go_enter Try.func14, Try.ntmps14
    go_wp2_with fail
    go_ret
    exact ⟨ret_bool' (by rw [HT.out]; simp), HB.out⟩
  | true =>
    cases t3 with
    | false =>
      go_enter Try.func14, Try.ntmps14
      go_wp2_with fail
      go_ret
      exact ⟨ret_bool' (by rw [HT.out]; simp), HB.out⟩
    | true =>
      cases t4 with
      | false =>
        go_enter Try.func14, Try.ntmps14
        go_wp2_with fail
        go_ret
        exact ⟨ret_bool' (by rw [HT.out]; simp), HB.out⟩
      | true =>
        cases t2 with
        | false =>
          go_enter Try.func14, Try.ntmps14
          go_wp2_with fail
          refine HE.out.mono ?_
          rintro e w3 ⟨rfl, m, rfl⟩
          go_wp2_with fail
          go_ret
          exact ⟨ret_bool' (by rw [HT.out]; simp), (belowN HB.out m)⟩
        | true =>
          go_enter Try.func14, Try.ntmps14
          go_wp2_with fail
          refine HE.out.mono ?_
          rintro e w3 ⟨rfl, m, rfl⟩
          go_wp2_with fail
          go_ret
          exact ⟨ret_bool' (by rw [HT.out]; simp), (belowN HB.out m)⟩
end Go.Proofs.Ytfleehlajngkbaa.RG
