/- part.Index. -/
import Derived.Test.YtdgkdoccllolpaaDoorPRPlace
namespace Go.Proofs.YtdgkdoccllolpaaDoor.P
open Go Go.RowKit Go.Shelf
open G
theorem ret_two {a b c d : Int} (h1 : a = c) (h2 : b = d) : Ending.returned (.tuple #[.int .i64 a, .int .i64 b]) = .returned (.tuple #[.int .i64 c, .int .i64 d]) := by rw [h1, h2]
set_option maxRecDepth 100000 in
set_option maxHeartbeats 1000000 in
theorem index_any (x y : Nat → Int) (W : World) :
    Calls Tryd.prog 21 #[.agg #[.int .i64 (x 0), .int .i64 (x 1), .int .i64 (x 2), .int .i64 (x 3), .int .i64 (x 4), .int .i64 (x 5)], .agg #[.int .i64 (y 0), .int .i64 (y 1), .int .i64 (y 2), .int .i64 (y 3), .int .i64 (y 4), .int .i64 (y 5)]] W fun e W' => e = .returned (.tuple #[.int .i64 (idxV x y : Int), .int .i64 (idxE x y)]) ∧ Below W.heap.size W W' := by
  have HV := Lib.hid (fun W => valid_any x W)
  have HVP := Lib.hid (fun W => vplace_any x y W)
  have HW := Lib.hid (fun W => widths_any x W)
  have HP := Lib.hid (fun W => ofPlace_any y W)
  cases hk : okB x with
  | false =>
    rw [hk] at HV
    have HI := Lib.hid (idx_bad (y := y) hk)
    clear hk
    go_enter Tryd.func21, Tryd.ntmps21
    go_wp2_with fail
    refine (HV.out _).mono ?_
    rintro e w1 ⟨rfl, hb1⟩
    have HB := Lib.hid (below_box2 hb1 (Nat.le_refl _))
    clear hb1
    go_wp2_with fail
    exact bodyPost_ret (v := .tuple #[.int .i64 0, .int .i64 1]) (by simp [results, Tryd.results21, go_sem]) rfl ⟨ret_two (by rw [HI.out.1]; rfl) HI.out.2.symm, HB.out⟩
  | true =>
  rw [hk] at HV
  have HO := Lib.hid (And.intro hk (ok_yes hk))
  clear hk
  go_enter Tryd.func21, Tryd.ntmps21
  go_wp2_with fail
  refine (HV.out _).mono ?_
  rintro e w1 ⟨rfl, hb1⟩
  have hsx := ((Six.new W 23 x).alloc (.cells #[.int .i64 (y 0), .int .i64 (y 1), .int .i64 (y 2), .int .i64 (y 3), .int .i64 (y 4), .int .i64 (y 5)] 24)).below hb1
  have hsy := (Six.new (W.alloc (.cells #[.int .i64 (x 0), .int .i64 (x 1), .int .i64 (x 2), .int .i64 (x 3), .int .i64 (x 4), .int .i64 (x 5)] 23)) 24 y).below hb1
  rw [World.size_alloc] at hsy
  have HB := Lib.hid (below_box2 hb1 (Nat.le_refl _))
  obtain ⟨c0, c1, c2, c3, c4, c5⟩ := hsy.all
  obtain ⟨d0, d1, d2, d3, d4, d5⟩ := hsx.all
  have HSX := Lib.hid hsx
  have HSY := Lib.hid hsy
  clear hb1 hsx hsy HV
  go_wp2_with fail
  refine (HVP.out _).mono ?_
  rintro e w2 ⟨rfl, hb2⟩
  have HB2 := Lib.hid (HB.out.trans (hb2.mono HB.out.size))
  have hsx2 := HSX.out.below hb2
  have hsy2 := HSY.out.below hb2
  clear c0 c1 c2 c3 c4 c5 d0 d1 d2 d3 d4 d5 HSX HSY HB hb2
  cases hv : vpB x y with
  | false =>
    have HI := Lib.hid (idx_no HO.out.1 hv)
    clear hv hsx2 hsy2
    go_wp2_with fail
    exact bodyPost_ret (v := .tuple #[.int .i64 0, .int .i64 2]) (by simp [results, Tryd.results21, go_sem]) rfl ⟨ret_two (by rw [HI.out.1]; rfl) HI.out.2.symm, HB2.out⟩
  | true =>
  have HI := Lib.hid (idx_yes HO.out.1 hv)
  have HN := Lib.hid (vp_in hv).2
  obtain ⟨c0, c1, c2, c3, c4, c5⟩ := hsy2.all
  have HSX := Lib.hid hsx2
  clear hv hsx2 hsy2
  go_wp2_with fail
  refine (HP.out _).mono ?_
  rintro e w3 ⟨rfl, hb3⟩
  have HB3 := Lib.hid (HB2.out.trans (hb3.mono HB2.out.size))
  have hsx3 := HSX.out.below hb3
  clear c0 c1 c2 c3 c4 c5 HSX HB2 hb3
  obtain ⟨w4, hw4⟩ : ∃ w4, w3.alloc (.cells #[.int .i64 (y 0), .int .i64 (y 1), .int .i64 (y 2), .int .i64 (y 3), .int .i64 (y 4), .int .i64 (y 5)] 62) = w4 := ⟨_, rfl⟩
  have hs := Six.new w3 62 y
  have hb4 := HB3.out.trans ((Below.refl _ w3).alloc HB3.out.size (.cells #[.int .i64 (y 0), .int .i64 (y 1), .int .i64 (y 2), .int .i64 (y 3), .int .i64 (y 4), .int .i64 (y 5)] 62))
  have hsx4 := hsx3.alloc (.cells #[.int .i64 (y 0), .int .i64 (y 1), .int .i64 (y 2), .int .i64 (y 3), .int .i64 (y 4), .int .i64 (y 5)] 62)
  obtain ⟨p, hp⟩ : ∃ p, w3.heap.size = p := ⟨_, rfl⟩
  rw [hw4, hp] at hs
  rw [hw4] at hb4 hsx4
  have HS := Lib.hid hs
  have HB4 := Lib.hid hb4
  obtain ⟨c0, c1, c2, c3, c4, c5⟩ := hsx4.all
  clear hs hb4 hsx3 hsx4 HB3
  go_wp2_with fail
  refine (HW.out _).mono ?_
  rintro e w5 ⟨rfl, hb5⟩
  have HS5 := Lib.hid (HS.out.below hb5)
  have HB5 := Lib.hid (HB4.out.trans (hb5.mono HB4.out.size))
  clear c0 c1 c2 c3 c4 c5 HS HB4 hb5
  go_wp2_with fail
  go_loopw [6, 21] (fun s i wr => ∃ k : Nat, i = .int .i64 (k : Int) ∧ k ≤ 6 ∧ s = .int .i64 (ix x y k : Int) ∧ ∃ n, wr = w5.drewN n) (fun _ i _ => 6 - (intOf i).toNat)
  case atStart => exact ⟨0, rfl, by decide, by rw [ix_zero]; rfl, 0, rfl⟩
  case round =>
    obtain ⟨k, rfl, hk, rfl, n, rfl⟩ := hrel
    by_cases hlt : k < 6
    · obtain ⟨hx, hn⟩ := HO.out.2.1 k hlt
      have hidx := index_num x k hlt
      rw [hx] at hidx
      obtain ⟨m, z, hm, hz, hw⟩ := ix_step HO.out.2.2 HN.out hlt
      have hc := HS5.out.at k hlt
      rw [hz] at hc
      obtain ⟨r, hr⟩ : ∃ r, ix x y (k + 1) = r := ⟨_, rfl⟩
      rw [hr] at hw
      have HR := Lib.hid hr
      clear hx hz hr
      go_wp2_with fail
      go_quiet (fail)
      go_wp2_with fail
      go_round
      case rel => exact ⟨k + 1, by go_num, hlt, by rw [HR.out], _, rfl⟩
      case measure => simp [intOf]; omega
    · obtain rfl : k = 6 := by omega
      go_wp2_with fail
      exact bodyPost_ret (v := .tuple #[.int .i64 (ix x y 6 : Int), .int .i64 0]) (by simp [results, Tryd.results21, go_sem]) rfl ⟨ret_two (by rw [HI.out.1]) HI.out.2.symm, belowN HB5.out _⟩
end Go.Proofs.YtdgkdoccllolpaaDoor.P
