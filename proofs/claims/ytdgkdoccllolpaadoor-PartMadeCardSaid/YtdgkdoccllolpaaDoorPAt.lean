/- part.At. -/
import Derived.Test.YtdgkdoccllolpaaDoorPIndex
namespace Go.Proofs.YtdgkdoccllolpaaDoor.P
open Go Go.RowKit Go.Shelf
open G
theorem ret_place {a b : Nat → Int} {c d : Int} (h1 : ∀ j, a j = b j) (h2 : c = d) : Ending.returned (.tuple #[.agg #[.int .i64 (a 0), .int .i64 (a 1), .int .i64 (a 2), .int .i64 (a 3), .int .i64 (a 4), .int .i64 (a 5)], .int .i64 c]) = .returned (.tuple #[.agg #[.int .i64 (b 0), .int .i64 (b 1), .int .i64 (b 2), .int .i64 (b 3), .int .i64 (b 4), .int .i64 (b 5)], .int .i64 d]) := by
  rw [h1, h1, h1, h1, h1, h1, h2]
set_option maxRecDepth 100000 in
set_option maxHeartbeats 1000000 in
theorem at_any (x : Nat → Int) (i : Int) (W : World) :
    Calls Tryd.prog 20 #[.agg #[.int .i64 (x 0), .int .i64 (x 1), .int .i64 (x 2), .int .i64 (x 3), .int .i64 (x 4), .int .i64 (x 5)], .int .i64 i] W fun e W' => e = .returned (.tuple #[.agg #[.int .i64 (atP x i 0), .int .i64 (atP x i 1), .int .i64 (atP x i 2), .int .i64 (atP x i 3), .int .i64 (atP x i 4), .int .i64 (atP x i 5)], .int .i64 (atE x i)]) ∧ Below W.heap.size W W' := by
  have HV := Lib.hid (fun W => valid_any x W)
  have HS := Lib.hid (fun W => size_any x W)
  have HW := Lib.hid (fun W => widths_any x W)
  have HTP := Lib.hid (fun z W => toPlace_any z W)
  have hsx := (Six.new W 23 x).alloc (.cells #[.int .i64 0, .int .i64 0, .int .i64 0, .int .i64 0, .int .i64 0, .int .i64 0] 24)
  have hsr := Six.new (W.alloc (.cells #[.int .i64 (x 0), .int .i64 (x 1), .int .i64 (x 2), .int .i64 (x 3), .int .i64 (x 4), .int .i64 (x 5)] 23)) 24 (fun _ => 0)
  have hb1 := ((Below.refl _ W).alloc (Nat.le_refl _) (.cells #[.int .i64 (x 0), .int .i64 (x 1), .int .i64 (x 2), .int .i64 (x 3), .int .i64 (x 4), .int .i64 (x 5)] 23)).alloc (by simp) (.cells #[.int .i64 0, .int .i64 0, .int .i64 0, .int .i64 0, .int .i64 0, .int .i64 0] 24)
  rw [World.size_alloc] at hsr
  obtain ⟨w1, hw1⟩ : ∃ w1, (W.alloc (.cells #[.int .i64 (x 0), .int .i64 (x 1), .int .i64 (x 2), .int .i64 (x 3), .int .i64 (x 4), .int .i64 (x 5)] 23)).alloc (.cells #[.int .i64 0, .int .i64 0, .int .i64 0, .int .i64 0, .int .i64 0, .int .i64 0] 24) = w1 := ⟨_, rfl⟩
  rw [hw1] at hsx hsr hb1
  have HSX := Lib.hid hsx
  have HSR := Lib.hid hsr
  have HB1 := Lib.hid hb1
  obtain ⟨c0, c1, c2, c3, c4, c5⟩ := hsx.all
  clear hsx hsr hb1
  cases hk : okB x with
  | false =>
    rw [hk] at HV
    have HI := Lib.hid (at_bad i hk)
    clear hk
    go_enter Tryd.func20, Tryd.ntmps20
    go_wp2_with fail
    refine (HV.out _).mono ?_
    rintro e w2 ⟨rfl, hb2⟩
    obtain ⟨d0, d1, d2, d3, d4, d5⟩ := (HSR.out.below hb2).all
    obtain ⟨f0, f1, f2, f3, f4, f5⟩ := (HSR.out.below hb2).frees
    have HR2 := Lib.hid (HSR.out.below hb2)
    have HB := Lib.hid (HB1.out.trans (hb2.mono HB1.out.size))
    clear hb2 HSR HSX HB1 c0 c1 c2 c3 c4 c5
    go_wp2_with fail
    obtain ⟨hp0, hp1, hp2, hp3, hp4, hp5⟩ := (put6_six HR2.out (fun _ => 0)).all
    have hbw := put6_below HB.out (B := W.heap.size) (p := W.heap.size + 1) (Nat.le_succ _) (fun _ => 0)
    simp only [put6] at hp0 hp1 hp2 hp3 hp4 hp5 hbw
    exact bodyPost_ret (v := .tuple #[.agg #[.int .i64 0, .int .i64 0, .int .i64 0, .int .i64 0, .int .i64 0, .int .i64 0], .int .i64 1]) (by simp [results, Tryd.results20, go_sem, hp0, hp1, hp2, hp3, hp4, hp5]) rfl ⟨ret_place (a := fun _ => 0) (fun j => (HI.out.2 j).symm) HI.out.1.symm, hbw⟩
  | true =>
  rw [hk] at HV
  have HO := Lib.hid (And.intro hk (ok_yes hk))
  have HNO := Lib.hid (fun (i : Int) (h : i < 0 ∨ (szN x : Int) ≤ i) => at_no hk h)
  have HYES := Lib.hid (fun (i : Nat) (h : i < szN x) => at_yes hk h)
  have hszl := sz_le x
  obtain ⟨sz, hsz⟩ : ∃ sz, szN x = sz := ⟨_, rfl⟩
  rw [hsz] at HS HNO HYES hszl
  clear hk hsz
  go_enter Tryd.func20, Tryd.ntmps20
  go_wp2_with fail
  refine (HV.out _).mono ?_
  rintro e w2 ⟨rfl, hb2⟩
  obtain ⟨d0, d1, d2, d3, d4, d5⟩ := (HSR.out.below hb2).all
  obtain ⟨f0, f1, f2, f3, f4, f5⟩ := (HSR.out.below hb2).frees
  obtain ⟨e0, e1, e2, e3, e4, e5⟩ := (HSX.out.below hb2).all
  have HR2 := Lib.hid (HSR.out.below hb2)
  have HX2 := Lib.hid (HSX.out.below hb2)
  have HB := Lib.hid (HB1.out.trans (hb2.mono HB1.out.size))
  clear hb2 HSR HSX HB1 c0 c1 c2 c3 c4 c5
  by_cases hneg : i < 0
  · have HI := Lib.hid (HNO.out i (.inl hneg))
    go_wp2_with fail
    obtain ⟨hp0, hp1, hp2, hp3, hp4, hp5⟩ := (put6_six HR2.out (fun _ => 0)).all
    have hbw := put6_below HB.out (B := W.heap.size) (p := W.heap.size + 1) (Nat.le_succ _) (fun _ => 0)
    simp only [put6] at hp0 hp1 hp2 hp3 hp4 hp5 hbw
    exact bodyPost_ret (v := .tuple #[.agg #[.int .i64 0, .int .i64 0, .int .i64 0, .int .i64 0, .int .i64 0, .int .i64 0], .int .i64 2]) (by simp [results, Tryd.results20, go_sem, hp0, hp1, hp2, hp3, hp4, hp5]) rfl ⟨ret_place (a := fun _ => 0) (fun j => (HI.out.2 j).symm) HI.out.1.symm, hbw⟩
  go_wp2_with fail
  refine (HS.out _).mono ?_
  rintro e w3 ⟨rfl, hb3⟩
  have hr3 := HR2.out.below hb3
  have hx3 := HX2.out.below hb3
  have HB3 := Lib.hid (HB.out.trans (hb3.mono HB.out.size))
  obtain ⟨d0, d1, d2, d3, d4, d5⟩ := hr3.all
  obtain ⟨f0, f1, f2, f3, f4, f5⟩ := hr3.frees
  obtain ⟨e0, e1, e2, e3, e4, e5⟩ := hx3.all
  have HR3 := Lib.hid hr3
  have HX3 := Lib.hid hx3
  clear hb3 hr3 hx3 HR2 HX2 HB
  by_cases hge : (sz : Int) ≤ i
  · have HI := Lib.hid (HNO.out i (.inr hge))
    go_wp2_with fail
    obtain ⟨hp0, hp1, hp2, hp3, hp4, hp5⟩ := (put6_six HR3.out (fun _ => 0)).all
    have hbw := put6_below HB3.out (B := W.heap.size) (p := W.heap.size + 1) (Nat.le_succ _) (fun _ => 0)
    simp only [put6] at hp0 hp1 hp2 hp3 hp4 hp5 hbw
    exact bodyPost_ret (v := .tuple #[.agg #[.int .i64 0, .int .i64 0, .int .i64 0, .int .i64 0, .int .i64 0, .int .i64 0], .int .i64 2]) (by simp [results, Tryd.results20, go_sem, hp0, hp1, hp2, hp3, hp4, hp5]) rfl ⟨ret_place (a := fun _ => 0) (fun j => (HI.out.2 j).symm) HI.out.1.symm, hbw⟩
  obtain ⟨n, rfl⟩ : ∃ n : Nat, i = (n : Int) := ⟨i.toNat, by omega⟩
  have hlt : n < sz := by omega
  have HI := Lib.hid (HYES.out n hlt)
  obtain ⟨w4, hw4⟩ : ∃ w4, w3.alloc (.cells #[.int .i64 0, .int .i64 0, .int .i64 0, .int .i64 0, .int .i64 0, .int .i64 0] 62) = w4 := ⟨_, rfl⟩
  have ho4 := Six.new w3 62 (fun _ => 0)
  have hr4 := HR3.out.alloc (.cells #[.int .i64 0, .int .i64 0, .int .i64 0, .int .i64 0, .int .i64 0, .int .i64 0] 62)
  have hx4 := HX3.out.alloc (.cells #[.int .i64 0, .int .i64 0, .int .i64 0, .int .i64 0, .int .i64 0, .int .i64 0] 62)
  have hb4 := HB3.out.trans ((Below.refl _ w3).alloc HB3.out.size (.cells #[.int .i64 0, .int .i64 0, .int .i64 0, .int .i64 0, .int .i64 0, .int .i64 0] 62))
  obtain ⟨p, hp⟩ : ∃ p, w3.heap.size = p := ⟨_, rfl⟩
  have hsz3 := HB3.out.size
  have hr3lt := HR3.out.lt
  rw [hw4] at ho4 hr4 hx4 hb4
  rw [hp] at ho4 hsz3 hr3lt
  have HP := Lib.hid (And.intro hsz3 hr3lt)
  have HO4 := Lib.hid ho4
  have HR4 := Lib.hid hr4
  have HX4 := Lib.hid hx4
  have HB4 := Lib.hid hb4
  clear d0 d1 d2 d3 d4 d5 f0 f1 f2 f3 f4 f5 e0 e1 e2 e3 e4 e5
  obtain ⟨e0, e1, e2, e3, e4, e5⟩ := hx4.all
  have hn0 : ¬ (n : Int) < 0 := by omega
  clear HYES HNO hneg ho4 hr4 hx4 hb4 HR3 HX3 HB3 hsz3 hr3lt
  go_wp2_with fail
  refine (HW.out _).mono ?_
  rintro e w5 ⟨rfl, hb5⟩
  obtain ⟨w6, hw6⟩ : ∃ w6, w5.alloc (.cells #[.int .i64 (x 0), .int .i64 (x 1), .int .i64 (x 2), .int .i64 (x 3), .int .i64 (x 4), .int .i64 (x 5)] 62) = w6 := ⟨_, rfl⟩
  have hq6 := Six.new w5 62 x
  have ho6 := (HO4.out.below hb5).alloc (.cells #[.int .i64 (x 0), .int .i64 (x 1), .int .i64 (x 2), .int .i64 (x 3), .int .i64 (x 4), .int .i64 (x 5)] 62)
  have hr6 := (HR4.out.below hb5).alloc (.cells #[.int .i64 (x 0), .int .i64 (x 1), .int .i64 (x 2), .int .i64 (x 3), .int .i64 (x 4), .int .i64 (x 5)] 62)
  have hb5' := HB4.out.trans (hb5.mono HB4.out.size)
  have hb6 := hb5'.trans ((Below.refl _ w5).alloc hb5'.size (.cells #[.int .i64 (x 0), .int .i64 (x 1), .int .i64 (x 2), .int .i64 (x 3), .int .i64 (x 4), .int .i64 (x 5)] 62))
  obtain ⟨q, hq⟩ : ∃ q, w5.heap.size = q := ⟨_, rfl⟩
  have hpq : p < q := by
    have := (HO4.out.below hb5).lt
    rw [hq] at this
    exact this
  rw [hw6] at hq6 ho6 hr6 hb6
  rw [hq] at hq6
  have HS6 := Lib.hid (And.intro (ho6.congr (z := dgs x n 6) (fun j hj => (dgs_six x n hj).symm)) (And.intro hq6 (And.intro hr6 hb6)))
  have HPQ := Lib.hid hpq
  clear hb5 hq6 ho6 hr6 hb5' hb6 HO4 HR4 HX4 HB4 e0 e1 e2 e3 e4 e5 HV HS HW hpq
  go_wp2_with fail
  go_loopw [1, 8] (fun s i wr => ∃ k : Nat, i = .int .i64 ((k : Int) - 1) ∧ k ≤ 6 ∧ s = .int .i64 (qr x n (6 - k) : Int) ∧ Hid (Six wr p 62 (dgs x n k) ∧ Six wr q 62 x ∧ Six wr (W.heap.size + 1) 24 (fun _ => 0) ∧ Below W.heap.size W wr)) (fun _ i _ => (intOf i + 1).toNat)
  case atStart => exact ⟨6, rfl, Nat.le_refl _, by rw [Nat.sub_self, qr_zero], HS6⟩
  case round =>
    obtain ⟨k, rfl, hk, rfl, HS⟩ := hrel
    cases k with
    | zero =>
      have HZ := Lib.hid (dgs_zero x n)
      obtain ⟨c0, c1, c2, c3, c4, c5⟩ := HS.out.1.all
      go_wp2_with fail
      with_reducible refine (HTP.out (dgs x n 0) _).mono ?_
      rintro e w8 ⟨rfl, hb8⟩
      have hr8 := HS.out.2.2.1.below hb8
      have HB8 := Lib.hid (HS.out.2.2.2.trans (hb8.mono HS.out.2.2.2.size))
      obtain ⟨d0, d1, d2, d3, d4, d5⟩ := hr8.all
      obtain ⟨f0, f1, f2, f3, f4, f5⟩ := hr8.frees
      clear c0 c1 c2 c3 c4 c5 hb8
      go_wp2_with fail
      obtain ⟨hp0, hp1, hp2, hp3, hp4, hp5⟩ := (put6_six hr8 (dgs x n 0)).all
      have hbw := put6_below HB8.out (B := W.heap.size) (p := W.heap.size + 1) (Nat.le_succ _) (dgs x n 0)
      simp only [put6] at hp0 hp1 hp2 hp3 hp4 hp5 hbw
      exact bodyPost_ret (v := .tuple #[.agg #[.int .i64 (dgs x n 0 0), .int .i64 (dgs x n 0 1), .int .i64 (dgs x n 0 2), .int .i64 (dgs x n 0 3), .int .i64 (dgs x n 0 4), .int .i64 (dgs x n 0 5)], .int .i64 0]) (by simp [results, Tryd.results20, go_sem, hp0, hp1, hp2, hp3, hp4, hp5]) rfl ⟨ret_place (fun j => by rw [HZ.out, HI.out.2]) HI.out.1.symm, hbw⟩
    | succ k =>
      have hlt : k < 6 := by omega
      obtain ⟨hx, hn⟩ := HO.out.2.1 k hlt
      have hc := HS.out.2.1.at k hlt
      rw [hx] at hc
      have hci := HS.out.1.at k hlt
      have hcf := HS.out.1.free k
      have hcq := HS.out.2.1.free k
      have hsh := shl_one hn
      have hpp := pw_pos (wd x k)
      have hone : ((k + 1 : Nat) : Int) - 1 = (k : Int) := by omega
      rw [hone]
      have e5k : 6 - (k + 1) = 5 - k := by omega
      rw [e5k]
      obtain ⟨hrem, hquo⟩ := dg_step x n hlt
      have hx' := hx
      clear hx
      obtain ⟨w7, hw7⟩ : ∃ w7, wr.setCell ⟨p, k, none⟩ (.int .i64 (dg x n k : Int)) = w7 := ⟨_, rfl⟩
      have hpr := HP.out
      have hpq := HPQ.out
      have ho7 := HS.out.1.setAt (z := dgs x n k) k hlt (fun j _ hj => (dgs_ne x n k hj).symm)
      rw [dgs_at] at ho7
      have hq7 := HS.out.2.1.other (q := ⟨p, k, none⟩) (by show p ≠ q; omega) (.int .i64 (dg x n k : Int))
      have hr7 := HS.out.2.2.1.other (q := ⟨p, k, none⟩) (by show p ≠ W.heap.size + 1; omega) (.int .i64 (dg x n k : Int))
      have hb7 := HS.out.2.2.2.setCell (p := ⟨p, k, none⟩) hpr.1 (.int .i64 (dg x n k : Int))
      rw [hw7] at ho7 hq7 hr7 hb7
      have HS7 := Lib.hid (And.intro ho7 (And.intro hq7 (And.intro hr7 hb7)))
      have hc7 := hq7.at k hlt
      rw [hx'] at hc7
      clear ho7 hq7 hr7 hb7 HS hpr hpq hx'
      go_wp2_with fail
      go_round
      case rel => exact ⟨k, rfl, by omega, by rw [dg_shr x n hlt], HS7⟩
      case measure => simp [intOf]
end Go.Proofs.YtdgkdoccllolpaaDoor.P
