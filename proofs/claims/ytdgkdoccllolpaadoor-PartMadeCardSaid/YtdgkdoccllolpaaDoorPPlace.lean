/- part.ValidPlace. -/
import Derived.Test.YtdgkdoccllolpaaDoorPRef1
import Derived.BigQuiet
namespace Go.Proofs.YtdgkdoccllolpaaDoor.P
open Go Go.RowKit Go.Shelf
open G
set_option maxRecDepth 100000 in
set_option maxHeartbeats 1000000 in
theorem vplace_any (x y : Nat → Int) (W : World) :
    Calls Tryd.prog 22 #[.agg #[.int .i64 (x 0), .int .i64 (x 1), .int .i64 (x 2), .int .i64 (x 3), .int .i64 (x 4), .int .i64 (x 5)], .agg #[.int .i64 (y 0), .int .i64 (y 1), .int .i64 (y 2), .int .i64 (y 3), .int .i64 (y 4), .int .i64 (y 5)]] W fun e W' => e = .returned (.bool (vpB x y)) ∧ Below W.heap.size W W' := by
  have HV := Lib.hid (fun W => valid_any x W)
  have HW := Lib.hid (fun W => widths_any x W)
  have HP := Lib.hid (fun W => ofPlace_any y W)
  cases hk : okB x with
  | false =>
    rw [hk] at HV
    rw [vp_bad hk]
    clear hk
    go_enter Tryd.func22, Tryd.ntmps22
    go_wp2_with fail
    refine (HV.out _).mono ?_
    rintro e w1 ⟨rfl, hb1⟩
    have HB := Lib.hid (below_box2 hb1 (Nat.le_refl _))
    clear hb1
    go_wp2_with fail
    go_ret
    exact ⟨rfl, HB.out⟩
  | true =>
    rw [hk] at HV
    have HO := Lib.hid (And.intro hk (ok_yes hk))
    clear hk
    go_enter Tryd.func22, Tryd.ntmps22
    go_wp2_with fail
    refine (HV.out _).mono ?_
    rintro e w1 ⟨rfl, hb1⟩
    have hsx := ((Six.new W 23 x).alloc (.cells #[.int .i64 (y 0), .int .i64 (y 1), .int .i64 (y 2), .int .i64 (y 3), .int .i64 (y 4), .int .i64 (y 5)] 24)).below hb1
    have hsy := (Six.new (W.alloc (.cells #[.int .i64 (x 0), .int .i64 (x 1), .int .i64 (x 2), .int .i64 (x 3), .int .i64 (x 4), .int .i64 (x 5)] 23)) 24 y).below hb1
    rw [World.size_alloc] at hsy
    have HB := Lib.hid (below_box2 hb1 (Nat.le_refl _))
    obtain ⟨c0, c1, c2, c3, c4, c5⟩ := hsy.all
    have HSX := Lib.hid hsx
    clear hb1 hsx hsy
    go_wp2_with fail
    refine (HP.out _).mono ?_
    rintro e w2 ⟨rfl, hb2⟩
    have HB2 := Lib.hid (HB.out.trans (hb2.mono HB.out.size))
    have hsx2 := HSX.out.below hb2
    clear c0 c1 c2 c3 c4 c5 HSX HB hb2
    obtain ⟨w3, hw3⟩ : ∃ w3, w2.alloc (.cells #[.int .i64 (y 0), .int .i64 (y 1), .int .i64 (y 2), .int .i64 (y 3), .int .i64 (y 4), .int .i64 (y 5)] 62) = w3 := ⟨_, rfl⟩
    have hs := Six.new w2 62 y
    have hb3 := HB2.out.trans ((Below.refl _ w2).alloc HB2.out.size (.cells #[.int .i64 (y 0), .int .i64 (y 1), .int .i64 (y 2), .int .i64 (y 3), .int .i64 (y 4), .int .i64 (y 5)] 62))
    have hsx3 := hsx2.alloc (.cells #[.int .i64 (y 0), .int .i64 (y 1), .int .i64 (y 2), .int .i64 (y 3), .int .i64 (y 4), .int .i64 (y 5)] 62)
    obtain ⟨p, hp⟩ : ∃ p, w2.heap.size = p := ⟨_, rfl⟩
    rw [hw3, hp] at hs
    rw [hw3] at hb3 hsx3
    have HS := Lib.hid hs
    have HB3 := Lib.hid hb3
    obtain ⟨c0, c1, c2, c3, c4, c5⟩ := hsx3.all
    clear hs hb3 hsx2 hsx3 HB2
    go_wp2_with fail
    refine (HW.out _).mono ?_
    rintro e w4 ⟨rfl, hb4⟩
    have HS4 := Lib.hid (HS.out.below hb4)
    have HB4 := Lib.hid (HB3.out.trans (hb4.mono HB3.out.size))
    clear c0 c1 c2 c3 c4 c5 HS HB3 hb4
    go_wp2_with fail
    go_loopw [15] (fun i wr => ∃ k : Nat, i = .int .i64 (k : Int) ∧ k ≤ 6 ∧ Hid (Inn x y k) ∧ ∃ n, wr = w4.drewN n) (fun i _ => 6 - (intOf i).toNat)
    case atStart => exact ⟨0, rfl, by decide, Lib.hid (Inn.zero x y), 0, rfl⟩
    case round =>
      obtain ⟨k, rfl, hk, HI, n, rfl⟩ := hrel
      by_cases hlt : k < 6
      · obtain ⟨hx, hn⟩ := HO.out.2.1 k hlt
        have hidx := index_num x k hlt
        rw [hx] at hidx
        have hc := HS4.out.at k hlt
        have hsh := shl_one hn
        clear hx
        by_cases h1 : y k < 0
        · have HN := Lib.hid (vp_no (x := x) (y := y) hlt (.inl h1))
          have hd := decide_eq_true h1
          clear h1
          go_wp2_with fail
          go_quiet (fail)
          go_wp2_with fail
          go_ret
          exact ⟨ret_bool HN.out.symm, belowN (belowN HB4.out _) _⟩
        · by_cases h2 : (pw (wd x k) : Int) ≤ y k
          · have HN := Lib.hid (vp_no (x := x) (y := y) hlt (.inr h2))
            have hd := decide_eq_false h1
            have hd2 := decide_eq_true h2
            clear h1 h2
            go_wp2_with fail
            go_quiet (fail)
            go_wp2_with fail
            go_ret
            exact ⟨ret_bool HN.out.symm, belowN (belowN HB4.out _) _⟩
          · have HI2 := Lib.hid (HI.out.succ h1 h2)
            have hd := decide_eq_false h1
            have hd2 := decide_eq_false h2
            clear h1 h2 HI
            go_wp2_with fail
            go_quiet (fail)
            go_wp2_with fail
            go_round
            case rel => exact ⟨k + 1, by go_num, hlt, HI2, _, rfl⟩
            case measure => simp [intOf]; omega
      · obtain rfl : k = 6 := by omega
        have HN := Lib.hid (vp_yes HO.out.1 HI.out)
        clear HI
        go_wp2_with fail
        go_ret
        exact ⟨ret_bool HN.out.symm, belowN HB4.out _⟩
end Go.Proofs.YtdgkdoccllolpaaDoor.P
