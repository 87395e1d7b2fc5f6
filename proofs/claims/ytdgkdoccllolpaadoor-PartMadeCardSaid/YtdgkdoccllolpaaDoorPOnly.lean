/- part.onlyNamed. -/
import Derived.Test.YtdgkdoccllolpaaDoorPCovM
import Derived.Test.YtdgkdoccllolpaaDoorPPlace
namespace Go.Proofs.YtdgkdoccllolpaaDoor.P
open Go Go.RowKit Go.Shelf
open G
set_option maxRecDepth 100000 in
set_option maxHeartbeats 1000000 in
theorem only_any (n : Nat) (hn6 : n ≤ 6) (pl : Nat → Int) (ch m v : Int) (hd : Bool) (W : World) (hT : Tab W) :
    Calls Tryd.prog 43 #[.agg #[.int .i64 (n : Int), .int .i64 (pl 0), .int .i64 (pl 1), .int .i64 (pl 2), .int .i64 (pl 3), .int .i64 (pl 4), .int .i64 (pl 5), .int .i64 ch, .int .u8 m, .int .u8 v, .bool hd]] W fun e W' => e = .returned (.bool (onlyB (n : Int) pl)) ∧ Below W.heap.size W W' := by
  have HX := Lib.hid (fun W => ofPlace_any pl W)
  have hsf := Flt.new W (n : Int) pl ch m v hd
  have hb0 := (Below.refl _ W).alloc (Nat.le_refl _) (.cells #[.int .i64 (n : Int), .int .i64 (pl 0), .int .i64 (pl 1), .int .i64 (pl 2), .int .i64 (pl 3), .int .i64 (pl 4), .int .i64 (pl 5), .int .i64 ch, .int .u8 m, .int .u8 v, .bool hd] 26)
  have ht := hT.below hb0
  obtain ⟨w0, hw0⟩ : ∃ w0, W.alloc (.cells #[.int .i64 (n : Int), .int .i64 (pl 0), .int .i64 (pl 1), .int .i64 (pl 2), .int .i64 (pl 3), .int .i64 (pl 4), .int .i64 (pl 5), .int .i64 ch, .int .u8 m, .int .u8 v, .bool hd] 26) = w0 := ⟨_, rfl⟩
  rw [hw0] at hsf hb0 ht
  obtain ⟨c0, c1, c2, c3, c4, c5, c6, c7, c8, c9, c10⟩ := hsf.all
  have HSF := Lib.hid hsf
  have HB0 := Lib.hid hb0
  have HT := Lib.hid ht
  clear hsf hb0 ht hT
  go_enter Tryd.func43, Tryd.ntmps43
  go_wp2_with fail
  refine (HX.out _).mono ?_
  rintro e w1 ⟨rfl, hb1⟩
  obtain ⟨w2, hw2⟩ : ∃ w2, w1.alloc (.cells #[.int .i64 (pl 0), .int .i64 (pl 1), .int .i64 (pl 2), .int .i64 (pl 3), .int .i64 (pl 4), .int .i64 (pl 5)] 62) = w2 := ⟨_, rfl⟩
  have hs := Six.new w1 62 pl
  have hb2 := hb1.trans ((Below.refl _ w1).alloc hb1.size (.cells #[.int .i64 (pl 0), .int .i64 (pl 1), .int .i64 (pl 2), .int .i64 (pl 3), .int .i64 (pl 4), .int .i64 (pl 5)] 62))
  obtain ⟨p, hp⟩ : ∃ p, w1.heap.size = p := ⟨_, rfl⟩
  rw [hw2] at hs hb2
  rw [hp] at hs
  have HP := Lib.hid hs
  have HB := Lib.hid (HB0.out.trans (hb2.mono HB0.out.size))
  have HTX := Lib.hid (HT.out.below hb2)
  have hki := (HSF.out.below hb2).kind
  clear hs hb1 hb2 c0 c1 c2 c3 c4 c5 c6 c7 c8 c9 c10 HSF HB0 HX HT
  have hn7 : n < 7 := by omega
  have t0 : w2.cell? ⟨0, n * 6, none⟩ = some (.bool (nmB (n : Int) 0)) := HTX.out.at n 0 hn7 (by decide)
  have t1 := HTX.out.at n 1 hn7 (by decide)
  have t2 := HTX.out.at n 2 hn7 (by decide)
  have t3 := HTX.out.at n 3 hn7 (by decide)
  have t4 := HTX.out.at n 4 hn7 (by decide)
  have t5 := HTX.out.at n 5 hn7 (by decide)
  go_wp2_with fail
  go_loopw [13] (fun i wr => ∃ k : Nat, i = .int .i64 (k : Int) ∧ k ≤ 6 ∧ Hid (Only (n : Int) pl k) ∧ wr = w2) (fun i _ => 6 - (intOf i).toNat)
  case atStart => exact ⟨0, rfl, by decide, Lib.hid (Only.zero _ _), rfl⟩
  case round =>
    obtain ⟨k, rfl, hk, HI, rfl⟩ := hrel
    by_cases hlt : k < 6
    · have hidx := index_bools (nmB (n : Int)) k hlt
      have hc := HP.out.at k hlt
      cases hnm : nmB (n : Int) k with
      | true =>
        rw [hnm] at hidx
        have HI2 := Lib.hid (HI.out.succ (.inl hnm))
        clear HI hnm
        go_wp2_with fail
        go_round
        case rel => exact ⟨k + 1, by go_num, hlt, HI2, trivial⟩
        case measure => simp [intOf]; omega
      | false =>
        rw [hnm] at hidx
        by_cases he : pl k = 0
        · have HI2 := Lib.hid (HI.out.succ (.inr he))
          have hd1 : (pl k != 0) = false := by rw [he]; rfl
          clear HI hnm
          go_wp2_with fail
          go_round
          case rel => exact ⟨k + 1, by go_num, hlt, HI2, trivial⟩
          case measure => simp [intOf]; omega
        · have HN := Lib.hid (only_no hlt hnm he)
          have hd1 : (pl k != 0) = true := by simpa using he
          clear HI hnm
          go_wp2_with fail
          go_ret
          exact ⟨ret_bool HN.out.symm, HB.out⟩
    · obtain rfl : k = 6 := by omega
      have HN := Lib.hid (only_yes HI.out)
      clear HI
      go_wp2_with fail
      go_ret
      exact ⟨ret_bool HN.out.symm, HB.out⟩
end Go.Proofs.YtdgkdoccllolpaaDoor.P
