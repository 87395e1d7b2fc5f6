/- The reference's At. -/
import Derived.Test.YtdgkdoccllolpaaDoorPAt
namespace Go.Proofs.YtdgkdoccllolpaaDoor.P
open Go Go.RowKit Go.Shelf
open G
set_option maxRecDepth 100000 in
set_option maxHeartbeats 1000000 in
theorem rat_any (x : Nat → Int) (i : Int) (W : World) :
    Calls Tryd.prog 26 #[.agg #[.int .i64 (x 0), .int .i64 (x 1), .int .i64 (x 2), .int .i64 (x 3), .int .i64 (x 4), .int .i64 (x 5)], .int .i64 i] W fun e W' => e = .returned (.tuple #[.agg #[.int .i64 (atP x i 0), .int .i64 (atP x i 1), .int .i64 (atP x i 2), .int .i64 (atP x i 3), .int .i64 (atP x i 4), .int .i64 (atP x i 5)], .int .i64 (atE x i)]) ∧ Below W.heap.size W W' := by
  have HV := Lib.hid (fun W => rvalid_any x W)
  have HS := Lib.hid (fun W => rsize_any x W)
  have HW := Lib.hid (fun W => bits_any x W)
  have hsx := (Six.new W 23 x).alloc (.cells #[.int .i64 0, .int .i64 0, .int .i64 0, .int .i64 0, .int .i64 0, .int .i64 0] 24)
  have hsr := Six.new (W.alloc (.cells #[.int .i64 (x 0), .int .i64 (x 1), .int .i64 (x 2), .int .i64 (x 3), .int .i64 (x 4), .int .i64 (x 5)] 23)) 24 (fun _ => 0)
  have hb1 := ((Below.refl _ W).alloc (Nat.le_refl _) (.cells #[.int .i64 (x 0), .int .i64 (x 1), .int .i64 (x 2), .int .i64 (x 3), .int .i64 (x 4), .int .i64 (x 5)] 23)).alloc (by simp) (.cells #[.int .i64 0, .int .i64 0, .int .i64 0, .int .i64 0, .int .i64 0, .int .i64 0] 24)
  rw [World.size_alloc] at hsr
  obtain ⟨w1, hw1⟩ : ∃ w1, (W.alloc (.cells #[.int .i64 (x 0), .int .i64 (x 1), .int .i64 (x 2), .int .i64 (x 3), .int .i64 (x 4), .int .i64 (x 5)] 23)).alloc (.cells #[.int .i64 0, .int .i64 0, .int .i64 0, .int .i64 0, .int .i64 0, .int .i64 0] 24) = w1 := ⟨_, rfl⟩
  rw [hw1] at hsx hsr hb1
  have HSX := Lib.hid hsx
  have HSR := Lib.hid hsr
  have HB1 := Lib.hid hb1
  obtain ⟨c0, c1, c2, c3, c4, c5⟩ := hsx.all
  clear hsx hsr hb1
  cases hk : okB x with
  | false =>
    rw [hk] at HV
    have HI := Lib.hid (at_bad i hk)
    clear hk
    go_enter Tryd.func26, Tryd.ntmps26
    go_wp2_with fail
    refine (HV.out _).mono ?_
    rintro e w2 ⟨rfl, hb2⟩
    obtain ⟨d0, d1, d2, d3, d4, d5⟩ := (HSR.out.below hb2).all
    obtain ⟨f0, f1, f2, f3, f4, f5⟩ := (HSR.out.below hb2).frees
    have HR2 := Lib.hid (HSR.out.below hb2)
    have HB := Lib.hid (HB1.out.trans (hb2.mono HB1.out.size))
    clear hb2 HSR HSX HB1 c0 c1 c2 c3 c4 c5
    go_wp2_with fail
    obtain ⟨hp0, hp1, hp2, hp3, hp4, hp5⟩ := (put6_six HR2.out (fun _ => 0)).all
    have hbw := put6_below HB.out (B := W.heap.size) (p := W.heap.size + 1) (Nat.le_succ _) (fun _ => 0)
    simp only [put6] at hp0 hp1 hp2 hp3 hp4 hp5 hbw
    exact bodyPost_ret (v := .tuple #[.agg #[.int .i64 0, .int .i64 0, .int .i64 0, .int .i64 0, .int .i64 0, .int .i64 0], .int .i64 1]) (by simp [results, Tryd.results26, go_sem, hp0, hp1, hp2, hp3, hp4, hp5]) rfl ⟨ret_place (a := fun _ => 0) (fun j => (HI.out.2 j).symm) HI.out.1.symm, hbw⟩
  | true =>
  rw [hk] at HV
  have HO := Lib.hid (And.intro hk (ok_yes hk))
  have HNO := Lib.hid (fun (i : Int) (h : i < 0 ∨ (szN x : Int) ≤ i) => at_no hk h)
  have HYES := Lib.hid (fun (i : Nat) (h : i < szN x) => at_yes hk h)
  have hszl := sz_le x
  obtain ⟨sz, hsz⟩ : ∃ sz, szN x = sz := ⟨_, rfl⟩
  rw [hsz] at HS HNO HYES hszl
  clear hk hsz
  go_enter Tryd.func26, Tryd.ntmps26
  go_wp2_with fail
  refine (HV.out _).mono ?_
  rintro e w2 ⟨rfl, hb2⟩
  obtain ⟨d0, d1, d2, d3, d4, d5⟩ := (HSR.out.below hb2).all
  obtain ⟨f0, f1, f2, f3, f4, f5⟩ := (HSR.out.below hb2).frees
  obtain ⟨e0, e1, e2, e3, e4, e5⟩ := (HSX.out.below hb2).all
  have HR2 := Lib.hid (HSR.out.below hb2)
  have HX2 := Lib.hid (HSX.out.below hb2)
  have HB := Lib.hid (HB1.out.trans (hb2.mono HB1.out.size))
  clear hb2 HSR HSX HB1 c0 c1 c2 c3 c4 c5
  by_cases hneg : i < 0
  · have HI := Lib.hid (HNO.out i (.inl hneg))
    go_wp2_with fail
    obtain ⟨hp0, hp1, hp2, hp3, hp4, hp5⟩ := (put6_six HR2.out (fun _ => 0)).all
    have hbw := put6_below HB.out (B := W.heap.size) (p := W.heap.size + 1) (Nat.le_succ _) (fun _ => 0)
    simp only [put6] at hp0 hp1 hp2 hp3 hp4 hp5 hbw
    exact bodyPost_ret (v := .tuple #[.agg #[.int .i64 0, .int .i64 0, .int .i64 0, .int .i64 0, .int .i64 0, .int .i64 0], .int .i64 2]) (by simp [results, Tryd.results26, go_sem, hp0, hp1, hp2, hp3, hp4, hp5]) rfl ⟨ret_place (a := fun _ => 0) (fun j => (HI.out.2 j).symm) HI.out.1.symm, hbw⟩
  go_wp2_with fail
  refine (HS.out _).mono ?_
  rintro e w3 ⟨rfl, hb3⟩
  have hr3 := HR2.out.below hb3
  have hx3 := HX2.out.below hb3
  have HB3 := Lib.hid (HB.out.trans (hb3.mono HB.out.size))
  obtain ⟨d0, d1, d2, d3, d4, d5⟩ := hr3.all
  obtain ⟨f0, f1, f2, f3, f4, f5⟩ := hr3.frees
  obtain ⟨e0, e1, e2, e3, e4, e5⟩ := hx3.all
  have HR3 := Lib.hid hr3
  have HX3 := Lib.hid hx3
  clear hb3 hr3 hx3 HR2 HX2 HB
  by_cases hge : (sz : Int) ≤ i
  · have HI := Lib.hid (HNO.out i (.inr hge))
    go_wp2_with fail
    obtain ⟨hp0, hp1, hp2, hp3, hp4, hp5⟩ := (put6_six HR3.out (fun _ => 0)).all
    have hbw := put6_below HB3.out (B := W.heap.size) (p := W.heap.size + 1) (Nat.le_succ _) (fun _ => 0)
    simp only [put6] at hp0 hp1 hp2 hp3 hp4 hp5 hbw
    exact bodyPost_ret (v := .tuple #[.agg #[.int .i64 0, .int .i64 0, .int .i64 0, .int .i64 0, .int .i64 0, .int .i64 0], .int .i64 2]) (by simp [results, Tryd.results26, go_sem, hp0, hp1, hp2, hp3, hp4, hp5]) rfl ⟨ret_place (a := fun _ => 0) (fun j => (HI.out.2 j).symm) HI.out.1.symm, hbw⟩
  obtain ⟨n, rfl⟩ : ∃ n : Nat, i = (n : Int) := ⟨i.toNat, by omega⟩
  have hlt : n < sz := by omega
  have HI := Lib.hid (HYES.out n hlt)
  have hn0 : ¬ (n : Int) < 0 := by omega
  have hr3lt := HR3.out.lt
  have hsz3 := HB3.out.size
  clear HYES HNO hneg
  go_wp2_with fail
  refine (HW.out _).mono ?_
  rintro e w5 ⟨rfl, hb5⟩
  obtain ⟨w6, hw6⟩ : ∃ w6, (w5.alloc (.cells #[.int .i64 (x 0), .int .i64 (x 1), .int .i64 (x 2), .int .i64 (x 3), .int .i64 (x 4), .int .i64 (x 5)] 61)).alloc (.cells #[.int .i64 0, .int .i64 0, .int .i64 0, .int .i64 0, .int .i64 0, .int .i64 0] 61) = w6 := ⟨_, rfl⟩
  have hq6 := (Six.new w5 61 x).alloc (.cells #[.int .i64 0, .int .i64 0, .int .i64 0, .int .i64 0, .int .i64 0, .int .i64 0] 61)
  have ho6 := Six.new (w5.alloc (.cells #[.int .i64 (x 0), .int .i64 (x 1), .int .i64 (x 2), .int .i64 (x 3), .int .i64 (x 4), .int .i64 (x 5)] 61)) 61 (fun _ => 0)
  have hr6 := ((HR3.out.below hb5).alloc (.cells #[.int .i64 (x 0), .int .i64 (x 1), .int .i64 (x 2), .int .i64 (x 3), .int .i64 (x 4), .int .i64 (x 5)] 61)).alloc (.cells #[.int .i64 0, .int .i64 0, .int .i64 0, .int .i64 0, .int .i64 0, .int .i64 0] 61)
  have hb5' := HB3.out.trans (hb5.mono HB3.out.size)
  have hb6 := (hb5'.trans ((Below.refl _ w5).alloc hb5'.size (.cells #[.int .i64 (x 0), .int .i64 (x 1), .int .i64 (x 2), .int .i64 (x 3), .int .i64 (x 4), .int .i64 (x 5)] 61))).alloc (by have := hb5'.size; simp; omega) (.cells #[.int .i64 0, .int .i64 0, .int .i64 0, .int .i64 0, .int .i64 0, .int .i64 0] 61)
  rw [World.size_alloc] at ho6
  have hsz5 := hb5'.size
  have hr5lt := (HR3.out.below hb5).lt
  obtain ⟨q, hq⟩ : ∃ q, w5.heap.size = q := ⟨_, rfl⟩
  rw [hw6] at hq6 ho6 hr6 hb6
  rw [hq] at hq6 ho6 hsz5 hr5lt
  have HP := Lib.hid (And.intro hsz5 hr5lt)
  have HS6 := Lib.hid (And.intro (ho6.congr (z := dgs x n 6) (fun j hj => (dgs_six x n hj).symm)) (And.intro hq6 (And.intro hr6 hb6)))
  clear hb5 hq6 ho6 hr6 hb5' hb6 HR3 HX3 HB3 HV HS HW hr3lt hsz3 hsz5 hr5lt d0 d1 d2 d3 d4 d5 f0 f1 f2 f3 f4 f5 e0 e1 e2 e3 e4 e5
  go_wp2_with fail
  go_loopw [1, 8] (fun s i wr => ∃ k : Nat, i = .int .i64 ((k : Int) - 1) ∧ k ≤ 6 ∧ s = .int .i64 (qr x n (6 - k) : Int) ∧ Hid (Six wr (q + 1) 61 (dgs x n k) ∧ Six wr q 61 x ∧ Six wr (W.heap.size + 1) 24 (fun _ => 0) ∧ Below W.heap.size W wr)) (fun _ i _ => (intOf i + 1).toNat)
  case atStart => exact ⟨6, rfl, Nat.le_refl _, by rw [Nat.sub_self, qr_zero], HS6⟩
  case round =>
    obtain ⟨k, rfl, hk, rfl, HS⟩ := hrel
    cases k with
    | zero =>
      have HZ := Lib.hid (dgs_zero x n)
      obtain ⟨c0, c1, c2, c3, c4, c5⟩ := HS.out.1.all
      have hr8 := HS.out.2.2.1
      have HB8 := Lib.hid HS.out.2.2.2
      obtain ⟨d0, d1, d2, d3, d4, d5⟩ := hr8.all
      obtain ⟨f0, f1, f2, f3, f4, f5⟩ := hr8.frees
      go_wp2_with fail
      obtain ⟨hp0, hp1, hp2, hp3, hp4, hp5⟩ := (put6_six hr8 (dgs x n 0)).all
      have hbw := put6_below HB8.out (B := W.heap.size) (p := W.heap.size + 1) (Nat.le_succ _) (dgs x n 0)
      simp only [put6] at hp0 hp1 hp2 hp3 hp4 hp5 hbw
      exact bodyPost_ret (v := .tuple #[.agg #[.int .i64 (dgs x n 0 0), .int .i64 (dgs x n 0 1), .int .i64 (dgs x n 0 2), .int .i64 (dgs x n 0 3), .int .i64 (dgs x n 0 4), .int .i64 (dgs x n 0 5)], .int .i64 0]) (by simp [results, Tryd.results26, go_sem, hp0, hp1, hp2, hp3, hp4, hp5]) rfl ⟨ret_place (fun j => by rw [HZ.out, HI.out.2]) HI.out.1.symm, hbw⟩
    | succ k =>
      have hlt : k < 6 := by omega
      obtain ⟨hx, hn⟩ := HO.out.2.1 k hlt
      have hc := HS.out.2.1.at k hlt
      rw [hx] at hc
      have hci := HS.out.1.at k hlt
      have hcf := HS.out.1.free k
      have hcq := HS.out.2.1.free k
      have hsh := shl_one hn
      have hwu : IntKind.u64.wrap (wd x k : Int) = (wd x k : Int) := by rw [IntKind.wrap_u64]; omega
      have hpp := pw_pos (wd x k)
      have hone : ((k + 1 : Nat) : Int) - 1 = (k : Int) := by omega
      rw [hone]
      have e5k : 6 - (k + 1) = 5 - k := by omega
      rw [e5k]
      obtain ⟨hrem, hquo⟩ := dg_step x n hlt
      have HQZ : Hid (Value.int IntKind.i64 (wrap64 (qr x n (6 - k) : Int)) = Value.int IntKind.i64 (qr x n (6 - k) : Int)) := Lib.hid (by have h1 := qr_le x n (6 - k); rw [show wrap64 (qr x n (6 - k) : Int) = (qr x n (6 - k) : Int) by unfold wrap64; omega])
      clear hquo
      have hx' := hx
      clear hx
      obtain ⟨w7, hw7⟩ : ∃ w7, wr.setCell ⟨q + 1, k, none⟩ (.int .i64 (dg x n k : Int)) = w7 := ⟨_, rfl⟩
      have hpr := HP.out
      have ho7 := HS.out.1.setAt (z := dgs x n k) k hlt (fun j _ hj => (dgs_ne x n k hj).symm)
      rw [dgs_at] at ho7
      have hq7 := HS.out.2.1.other (q := ⟨q + 1, k, none⟩) (by show q + 1 ≠ q; omega) (.int .i64 (dg x n k : Int))
      have hr7 := HS.out.2.2.1.other (q := ⟨q + 1, k, none⟩) (by show q + 1 ≠ W.heap.size + 1; omega) (.int .i64 (dg x n k : Int))
      have hb7 := HS.out.2.2.2.setCell (p := ⟨q + 1, k, none⟩) (by show W.heap.size ≤ q + 1; omega) (.int .i64 (dg x n k : Int))
      rw [hw7] at ho7 hq7 hr7 hb7
      have HS7 := Lib.hid (And.intro ho7 (And.intro hq7 (And.intro hr7 hb7)))
      have hc7 := hq7.at k hlt
      rw [hx'] at hc7
      clear ho7 hq7 hr7 hb7 HS hpr hx'
      go_wp2_with fail
      go_round
      case rel => exact ⟨k, rfl, by omega, by rw [dg_quo x n hlt]; exact HQZ.out, HS7⟩
      case measure => simp [intOf]
end Go.Proofs.YtdgkdoccllolpaaDoor.P
