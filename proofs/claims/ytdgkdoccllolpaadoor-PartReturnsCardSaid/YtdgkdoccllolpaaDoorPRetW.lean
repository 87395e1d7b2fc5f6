/- PartReturns: the walk. -/
import Derived.Test.YtdgkdoccllolpaaDoorPLawK
namespace Go.Proofs.YtdgkdoccllolpaaDoor.P
open Go Go.RowKit Go.Shelf
open G
section
attribute [local semireducible] vpB Inn
theorem inn_of_eq {x P y : Nat → Int} (h : vpB x P = true) (h0 : P 0 = y 0) (h1 : P 1 = y 1) (h2 : P 2 = y 2) (h3 : P 3 = y 3) (h4 : P 4 = y 4) (h5 : P 5 = y 5) : Inn x y 6 := by
  have hi := (vp_in h).2
  intro l hl
  have := hi l hl
  obtain rfl | rfl | rfl | rfl | rfl | rfl : l = 0 ∨ l = 1 ∨ l = 2 ∨ l = 3 ∨ l = 4 ∨ l = 5 := by omega
  · rwa [← h0]
  · rwa [← h1]
  · rwa [← h2]
  · rwa [← h3]
  · rwa [← h4]
  · rwa [← h5]
end
set_option maxRecDepth 100000 in
set_option maxHeartbeats 4000000 in
/-- **PartReturns** -/
theorem returns_any (a : Option Addr) (cap : Nat) (ts : List Int) (n : Int) (w : World) (hR : IRow w a ts cap) (hT : Tab w) :
    Calls Tryd.prog 5 #[.slice a ts.length cap, .int .i64 n] w fun e W => e = .returned (.bool true) ∧ Below w.heap.size w W := by
  have HAW := Lib.hid (fun W hT => awake_any W hT)
  have HT := Lib.hid hT
  by_cases h400 : (ts.length : Int) ≤ 400
  case neg =>
    have hd : decide ((ts.length : Int) ≤ 400) = false := by simpa using h400
    have HL := Lib.hid (G.light_any a ts.length cap w)
    rw [hd] at HL
    clear hd hR hT
    go_enter Tryd.func5, Tryd.ntmps5
    go_wp2_with fail
    refine HL.out.mono ?_
    rintro e w1 ⟨rfl, rfl⟩
    go_wp2_with fail
    refine (HAW.out _ HT.out).mono ?_
    rintro e w2 ⟨rfl, hb2⟩
    go_wp2_with fail
    go_ret
    exact ⟨rfl, hb2⟩
  case pos =>
    have hd : decide ((ts.length : Int) ≤ 400) = true := by simpa using h400
    have HL := Lib.hid (G.light_any a ts.length cap w)
    rw [hd] at HL
    have HRO := Lib.hid (G.roll_any a cap ts w hR (by omega))
    clear hd hR hT
    go_enter Tryd.func5, Tryd.ntmps5
    go_wp2_with fail
    refine HL.out.mono ?_
    rintro e w1 ⟨rfl, rfl⟩
    go_wp2_with fail
    refine HRO.out.mono ?_
    rintro e w1 ⟨rfl, hd1, hb1⟩
    have HSH := Lib.hid (shape_any w1 w.heap.size a cap ts 0 12 (by decide) hd1)
    have HB1 := Lib.hid (And.intro hb1 hd1.lt)
    clear hd1 hb1 HL HRO
    go_wp2_with fail
    refine HSH.out.mono ?_
    rintro e w2 ⟨x, k2, rfl, hok, htm, hd2, hg2⟩
    have hk := LK.start (x := x) HT.out HB1.out.1 HB1.out.2 hd2 hg2
    obtain ⟨w3, hw3⟩ : ∃ w3, w2.alloc (.cells #[.int .i64 (x 0), .int .i64 (x 1), .int .i64 (x 2), .int .i64 (x 3), .int .i64 (x 4), .int .i64 (x 5)] 23) = w3 := ⟨_, rfl⟩
    rw [hw3] at hk
    obtain ⟨p, hp⟩ : ∃ p, w2.heap.size = p := ⟨_, rfl⟩
    rw [hp] at hk
    have HK := Lib.hid hk
    obtain ⟨c0, c1, c2, c3, c4, c5⟩ := hk.shape.all
    have HOK := Lib.hid hok
    have HS := Lib.hid (fun W => size_any x W)
    have HA := Lib.hid (fun i W => at_any x i W)
    have HI := Lib.hid (fun y W => index_any x y W)
    have HV := Lib.hid (fun y W => vplace_any x y W)
    have HPL := Lib.hid (fun W k hD => place_any W w.heap.size a cap ts k x hok hD)
    obtain ⟨sz, hsz⟩ : ∃ z, szN x = z := ⟨_, rfl⟩
    have hszp := sz_pos hok
    have hszl := sz_le x
    have HSZ := Lib.hid hsz
    rw [hsz] at HS hszp hszl
    clear hok htm hd2 hg2 hk HSH HB1 hsz HT
    go_wp2_with fail
    refine (HS.out _).mono ?_
    rintro e w4 ⟨rfl, hb4⟩
    have HK4 := Lib.hid (HK.out.below hb4)
    obtain ⟨i, hi, hil⟩ := mod_nat n sz hszp
    have HM := Lib.hid (fun W => (show Calls Tryd.prog 18 #[.int .i64 n, .int .i64 (sz : Int)] W fun e W' => e = .returned (.int .i64 (i : Int)) ∧ W = W' from by rw [← hi]; exact mod_any n (sz : Int) (by omega) (by omega) W))
    have HAI := Lib.hid (at_idx HOK.out (i := i) (by rw [HSZ.out]; exact hil))
    clear hb4 HK c0 c1 c2 c3 c4 c5 hi
    go_wp2_with fail
    refine (HM.out _).mono ?_
    rintro e w4' ⟨rfl, rfl⟩
    obtain ⟨c0, c1, c2, c3, c4, c5⟩ := HK4.out.shape.all
    go_wp2_with fail
    refine (HA.out (i : Int) _).mono ?_
    rintro e w5 ⟨rfl, hb5⟩
    rw [HAI.out.1]
    have hz := fun j => (show atP x (i : Int) j = atP x (i : Int) j from rfl)
    obtain ⟨P, hP⟩ : ∃ P : Nat → Int, atP x (i : Int) = P := ⟨_, rfl⟩
    rw [hP]
    have HAI2 := Lib.hid HAI.out.2
    rw [hP] at HAI2
    obtain ⟨w6, hw6⟩ : ∃ w6, w5.alloc (.cells #[.int .i64 (P 0), .int .i64 (P 1), .int .i64 (P 2), .int .i64 (P 3), .int .i64 (P 4), .int .i64 (P 5)] 24) = w6 := ⟨_, rfl⟩
    have hk6 := (HK4.out.below hb5).alloc (.cells #[.int .i64 (P 0), .int .i64 (P 1), .int .i64 (P 2), .int .i64 (P 3), .int .i64 (P 4), .int .i64 (P 5)] 24)
    have hp6 := Six.new w5 24 P
    obtain ⟨pp, hpp⟩ : ∃ p, w5.heap.size = p := ⟨_, rfl⟩
    have hppd : w.heap.size < pp := by rw [← hpp]; exact (HK4.out.below hb5).dice.elim fun k h => h.lt
    rw [hw6] at hk6 hp6
    rw [hpp] at hp6
    clear c0 c1 c2 c3 c4 c5 hz
    obtain ⟨c0, c1, c2, c3, c4, c5⟩ := hk6.shape.all
    obtain ⟨p0, p1, p2, p3, p4, p5⟩ := hp6.all
    have HK6 := Lib.hid hk6
    have HP6 := Lib.hid hp6
    have HX1 := Lib.hid (And.intro hP HAI.out)
    clear hb5 HK4 hk6 hp6 HAI hP HA
    go_wp2_with fail
    refine (HI.out P _).mono ?_
    rintro e w7 ⟨rfl, hb7⟩
    rw [HAI2.out.2.1, HAI2.out.2.2]
    have hk7 := HK6.out.below hb7
    have hp7 := HP6.out.below hb7
    obtain ⟨k7, hd7⟩ := hk7.dice
    have HPL7 := Lib.hid (HPL.out w7 k7 hd7)
    have HK7 := Lib.hid hk7
    have HP7 := Lib.hid hp7
    clear c0 c1 c2 c3 c4 c5 p0 p1 p2 p3 p4 p5
    obtain ⟨c0, c1, c2, c3, c4, c5⟩ := hk7.shape.all
    clear hb7 hk7 hp7 hd7 HK6 HP6 HPL
    go_wp2_with fail
    refine HPL7.out.mono ?_
    rintro e w8 ⟨y, k8, rfl, hin, hd8, hg8⟩
    obtain ⟨w9, hw9⟩ : ∃ w9, w8.alloc (.cells #[.int .i64 (y 0), .int .i64 (y 1), .int .i64 (y 2), .int .i64 (y 3), .int .i64 (y 4), .int .i64 (y 5)] 24) = w9 := ⟨_, rfl⟩
    have hk9 := (HK7.out.grown hd8 hg8).alloc (.cells #[.int .i64 (y 0), .int .i64 (y 1), .int .i64 (y 2), .int .i64 (y 3), .int .i64 (y 4), .int .i64 (y 5)] 24)
    have hp9 := (HP7.out.diced hg8 (by omega)).alloc (.cells #[.int .i64 (y 0), .int .i64 (y 1), .int .i64 (y 2), .int .i64 (y 3), .int .i64 (y 4), .int .i64 (y 5)] 24)
    have hq9 := Six.new w8 24 y
    obtain ⟨pq, hpq⟩ : ∃ p, w8.heap.size = p := ⟨_, rfl⟩
    rw [hw9] at hk9 hp9 hq9
    rw [hpq] at hq9
    have HIA := Lib.hid (idx_at HOK.out hin)
    clear c0 c1 c2 c3 c4 c5
    obtain ⟨c0, c1, c2, c3, c4, c5⟩ := hk9.shape.all
    obtain ⟨p0, p1, p2, p3, p4, p5⟩ := hq9.all
    have HK9 := Lib.hid hk9
    have HP9 := Lib.hid hp9
    have HQ9 := Lib.hid hq9
    clear hd8 hg8 hk9 hp9 hq9 HK7 HP7 HPL7 hin
    go_wp2_with fail
    refine (HI.out y _).mono ?_
    rintro e w10 ⟨rfl, hb10⟩
    rw [HIA.out.1]
    have HIA2 := Lib.hid (And.intro HIA.out.2.2.1 HIA.out.2.2.2)
    obtain ⟨j, hj⟩ : ∃ j, idxV x y = j := ⟨_, rfl⟩
    rw [hj] at HIA2
    rw [hj]
    have hk10 := HK9.out.below hb10
    have HK10 := Lib.hid hk10
    have HP10 := Lib.hid (HP9.out.below hb10)
    have HQ10 := Lib.hid (HQ9.out.below hb10)
    have HJ := Lib.hid hj
    have hjz : j < sz := by rw [← hj, ← HSZ.out]; exact HIA.out.2.1
    clear c0 c1 c2 c3 c4 c5 p0 p1 p2 p3 p4 p5 hj
    obtain ⟨c0, c1, c2, c3, c4, c5⟩ := hk10.shape.all
    have HA := Lib.hid (show ∀ W, Calls Tryd.prog 20 #[.agg #[.int .i64 (x 0), .int .i64 (x 1), .int .i64 (x 2), .int .i64 (x 3), .int .i64 (x 4), .int .i64 (x 5)], .int .i64 (j : Int)] W fun e W' => e = .returned (.tuple #[.agg #[.int .i64 (y 0), .int .i64 (y 1), .int .i64 (y 2), .int .i64 (y 3), .int .i64 (y 4), .int .i64 (y 5)], .int .i64 0]) ∧ Below W.heap.size W W' from fun W => by
      have h := at_any x (j : Int) W
      rw [HIA2.out.1, HIA2.out.2 0 (by decide), HIA2.out.2 1 (by decide), HIA2.out.2 2 (by decide), HIA2.out.2 3 (by decide), HIA2.out.2 4 (by decide), HIA2.out.2 5 (by decide)] at h
      exact h)
    clear hb10 hk10 HK9 HP9 HQ9
    go_wp2_with fail
    refine (HA.out _).mono ?_
    rintro e w11 ⟨rfl, hb11⟩
    obtain ⟨w12, hw12⟩ : ∃ w12, w11.alloc (.cells #[.int .i64 (y 0), .int .i64 (y 1), .int .i64 (y 2), .int .i64 (y 3), .int .i64 (y 4), .int .i64 (y 5)] 24) = w12 := ⟨_, rfl⟩
    have hk12 := (HK10.out.below hb11).alloc (.cells #[.int .i64 (y 0), .int .i64 (y 1), .int .i64 (y 2), .int .i64 (y 3), .int .i64 (y 4), .int .i64 (y 5)] 24)
    have hp12 := (HP10.out.below hb11).alloc (.cells #[.int .i64 (y 0), .int .i64 (y 1), .int .i64 (y 2), .int .i64 (y 3), .int .i64 (y 4), .int .i64 (y 5)] 24)
    have hq12 := (HQ10.out.below hb11).alloc (.cells #[.int .i64 (y 0), .int .i64 (y 1), .int .i64 (y 2), .int .i64 (y 3), .int .i64 (y 4), .int .i64 (y 5)] 24)
    have hr12 := Six.new w11 24 y
    obtain ⟨pr, hpr⟩ : ∃ p, w11.heap.size = p := ⟨_, rfl⟩
    rw [hw12] at hk12 hp12 hq12 hr12
    rw [hpr] at hr12
    have HK12 := Lib.hid hk12
    have HP12 := Lib.hid hp12
    have HQ12 := Lib.hid hq12
    have HR12 := Lib.hid hr12
    clear hb11 hk12 hp12 hq12 hr12 HK10 HP10 HQ10 c0 c1 c2 c3 c4 c5 HA
    go_wp2_with fail
    refine (HAW.out _ HK12.out.tab).mono ?_
    rintro e w13 ⟨rfl, hb13⟩
    have hk13 := HK12.out.below hb13
    have hp13 := HP12.out.below hb13
    obtain ⟨c0, c1, c2, c3, c4, c5⟩ := hk13.shape.all
    obtain ⟨p0, p1, p2, p3, p4, p5⟩ := hp13.all
    have HK13 := Lib.hid hk13
    have HP13 := Lib.hid hp13
    have HQ13 := Lib.hid (HQ12.out.below hb13)
    have HR13 := Lib.hid (HR12.out.below hb13)
    have HVP := Lib.hid (show ∀ W, Calls Tryd.prog 22 #[.agg #[.int .i64 (x 0), .int .i64 (x 1), .int .i64 (x 2), .int .i64 (x 3), .int .i64 (x 4), .int .i64 (x 5)], .agg #[.int .i64 (P 0), .int .i64 (P 1), .int .i64 (P 2), .int .i64 (P 3), .int .i64 (P 4), .int .i64 (P 5)]] W fun e W' => e = .returned (.bool true) ∧ Below W.heap.size W W' from fun W => by
      have h := HV.out P W
      rw [HAI2.out.1] at h
      exact h)
    clear hb13 hk13 hp13 HK12 HP12 HQ12 HR12 HAW HV
    go_wp2_with fail
    refine (HVP.out _).mono ?_
    rintro e w14 ⟨rfl, hb14⟩
    have HB := Lib.hid (HK13.out.below hb14).bel
    obtain ⟨q0, q1, q2, q3, q4, q5⟩ := (HQ13.out.below hb14).all
    obtain ⟨r0, r1, r2, r3, r4, r5⟩ := (HR13.out.below hb14).all
    clear p0 p1 p2 p3 p4 p5
    obtain ⟨p0, p1, p2, p3, p4, p5⟩ := (HP13.out.below hb14).all
    have hPd : ∀ l, l < 6 → P l = (dg x i l : Int) := fun l _ => by rw [← HX1.out.1]; exact (at_yes HOK.out (by rw [HSZ.out]; exact hil)).2 l
    clear hb14 HK13 HP13 HQ13 HR13 HVP c0 c1 c2 c3 c4 c5
    by_cases hji : j = i
    · have hPy : ∀ l, l < 6 → P l = y l := fun l hl => by rw [← HX1.out.1, ← hji]; exact HIA2.out.2 l hl
      rw [hPy 0 (by decide)] at p0
      rw [hPy 1 (by decide)] at p1
      rw [hPy 2 (by decide)] at p2
      rw [hPy 3 (by decide)] at p3
      rw [hPy 4 (by decide)] at p4
      rw [hPy 5 (by decide)] at p5
      clear hPy hPd
      subst hji
      go_wp2_with fail
      go_ret
      exact ⟨rfl, HB.out⟩
    · have HNE := Lib.hid (show ¬ (P 0 = y 0 ∧ P 1 = y 1 ∧ P 2 = y 2 ∧ P 3 = y 3 ∧ P 4 = y 4 ∧ P 5 = y 5) from fun ⟨g0, g1, g2, g3, g4, g5⟩ => hji (by
        rw [← HJ.out, (idx_yes HOK.out (vp_yes HOK.out (inn_of_eq HAI2.out.1 g0 g1 g2 g3 g4 g5))).1]
        refine ix_dg (by rw [← sz_yes HOK.out, HSZ.out]; exact hil) (fun l hl => ?_)
        rw [← hPd l hl]
        obtain rfl | rfl | rfl | rfl | rfl | rfl : l = 0 ∨ l = 1 ∨ l = 2 ∨ l = 3 ∨ l = 4 ∨ l = 5 := by omega
        · exact g0.symm
        · exact g1.symm
        · exact g2.symm
        · exact g3.symm
        · exact g4.symm
        · exact g5.symm))
      have hb : ((j : Int) == (i : Int)) = false := by rw [beq_eq_false_iff_ne]; omega
      clear hPd hji
      go_wp2_with fail
      all_goals (
        go_ret
        first
          | exact ⟨rfl, HB.out⟩
          | exact absurd ⟨‹P 0 = y 0›, ‹P 1 = y 1›, ‹P 2 = y 2›, ‹P 3 = y 3›, ‹P 4 = y 4›, ‹P 5 = y 5›⟩ HNE.out)
end Go.Proofs.YtdgkdoccllolpaaDoor.P
