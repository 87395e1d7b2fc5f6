/- part.Covered. -/
import Derived.Test.YtdgkdoccllolpaaDoorPCovers
import Derived.Test.YtdgkdoccllolpaaDoorPAt
import Derived.Test.YtdgkdoccllolpaaDoorGInt
namespace Go.Proofs.YtdgkdoccllolpaaDoor.P
open Go Go.RowKit Go.Shelf
open G
set_option maxRecDepth 100000 in
set_option maxHeartbeats 1000000 in
theorem covered_any (x : Nat → Int) (kd : Int) (pl : Nat → Int) (ch m v : Int) (hd : Bool) (W : World) (hT : Tab W) :
    Calls Tryd.prog 23 #[.agg #[.int .i64 (x 0), .int .i64 (x 1), .int .i64 (x 2), .int .i64 (x 3), .int .i64 (x 4), .int .i64 (x 5)], .agg #[.int .i64 kd, .int .i64 (pl 0), .int .i64 (pl 1), .int .i64 (pl 2), .int .i64 (pl 3), .int .i64 (pl 4), .int .i64 (pl 5), .int .i64 ch, .int .u8 m, .int .u8 v, .bool hd]] W fun e W' => ∃ a c, e = .returned (.slice a (cvF x kd pl (szN x)).length c) ∧ G.Own W' W.heap.size (.slice a (cvF x kd pl (szN x)).length c) (cvF x kd pl (szN x)) ∧ Below W.heap.size W W' := by
  have HS := Lib.hid (fun W => size_any x W)
  have HA := Lib.hid (fun i W => at_any x i W)
  have HC := Lib.hid (fun y W hT => covers_any kd pl y ch m v hd W hT)
  have hsz := sz_le x
  obtain ⟨sz, hsze⟩ : ∃ z, szN x = z := ⟨_, rfl⟩
  rw [hsze] at HS hsz
  have HSE := Lib.hid hsze
  rw [hsze]
  clear hsze
  have hsx := (Six.new W 23 x).alloc (.cells #[.int .i64 kd, .int .i64 (pl 0), .int .i64 (pl 1), .int .i64 (pl 2), .int .i64 (pl 3), .int .i64 (pl 4), .int .i64 (pl 5), .int .i64 ch, .int .u8 m, .int .u8 v, .bool hd] 26)
  have hsf := Flt.new (W.alloc (.cells #[.int .i64 (x 0), .int .i64 (x 1), .int .i64 (x 2), .int .i64 (x 3), .int .i64 (x 4), .int .i64 (x 5)] 23)) kd pl ch m v hd
  have hb0 := ((Below.refl _ W).alloc (Nat.le_refl _) (.cells #[.int .i64 (x 0), .int .i64 (x 1), .int .i64 (x 2), .int .i64 (x 3), .int .i64 (x 4), .int .i64 (x 5)] 23)).alloc (by simp) (.cells #[.int .i64 kd, .int .i64 (pl 0), .int .i64 (pl 1), .int .i64 (pl 2), .int .i64 (pl 3), .int .i64 (pl 4), .int .i64 (pl 5), .int .i64 ch, .int .u8 m, .int .u8 v, .bool hd] 26)
  have ht := hT.below hb0
  rw [World.size_alloc] at hsf
  obtain ⟨w0, hw0⟩ : ∃ w0, (W.alloc (.cells #[.int .i64 (x 0), .int .i64 (x 1), .int .i64 (x 2), .int .i64 (x 3), .int .i64 (x 4), .int .i64 (x 5)] 23)).alloc (.cells #[.int .i64 kd, .int .i64 (pl 0), .int .i64 (pl 1), .int .i64 (pl 2), .int .i64 (pl 3), .int .i64 (pl 4), .int .i64 (pl 5), .int .i64 ch, .int .u8 m, .int .u8 v, .bool hd] 26) = w0 := ⟨_, rfl⟩
  rw [hw0] at hsx hsf hb0 ht
  have HSX := Lib.hid hsx
  have HSF := Lib.hid hsf
  have HB0 := Lib.hid hb0
  have HT := Lib.hid ht
  obtain ⟨e0, e1, e2, e3, e4, e5⟩ := hsx.all
  clear hsx hsf hb0 ht hT
  go_enter Tryd.func23, Tryd.ntmps23
  go_wp2_with fail
  refine (HS.out _).mono ?_
  rintro e w1 ⟨rfl, hb1⟩
  have HB1 := Lib.hid hb1
  clear hb1 e0 e1 e2 e3 e4 e5
  go_wp2_with fail
  go_loopw [5, 11] (fun s i wr => ∃ (k : Nat) (a : Option Addr) (c : Nat), i = .int .i64 (k : Int) ∧ k ≤ sz ∧ s = .slice a (cvF x kd pl k).length c ∧ Hid (G.Own wr w0.heap.size (.slice a (cvF x kd pl k).length c) (cvF x kd pl k) ∧ Below w0.heap.size w0 wr)) (fun _ i _ => sz - (intOf i).toNat)
  case atStart => exact ⟨0, none, 0, rfl, Nat.zero_le _, rfl, Lib.hid ⟨G.Own.nil _ _, HB1.out⟩⟩
  case round =>
    obtain ⟨k, a, c, rfl, hk, rfl, HI⟩ := hrel
    by_cases hlt : k < sz
    · obtain ⟨d0, d1, d2, d3, d4, d5⟩ := (HSX.out.below HI.out.2).all
      go_wp2_with fail
      refine (HA.out (k : Int) _).mono ?_
      rintro e w3 ⟨rfl, hb3⟩
      obtain ⟨w4, hw4⟩ : ∃ w4, w3.alloc (.cells #[.int .i64 (atP x (k : Int) 0), .int .i64 (atP x (k : Int) 1), .int .i64 (atP x (k : Int) 2), .int .i64 (atP x (k : Int) 3), .int .i64 (atP x (k : Int) 4), .int .i64 (atP x (k : Int) 5)] 24) = w4 := ⟨_, rfl⟩
      have hp := Six.new w3 24 (atP x (k : Int))
      have hb34 := hb3.trans ((Below.refl _ w3).alloc hb3.size (.cells #[.int .i64 (atP x (k : Int) 0), .int .i64 (atP x (k : Int) 1), .int .i64 (atP x (k : Int) 2), .int .i64 (atP x (k : Int) 3), .int .i64 (atP x (k : Int) 4), .int .i64 (atP x (k : Int) 5)] 24))
      rw [hw4] at hp hb34
      have HI4 := Lib.hid (And.intro (HI.out.1.below hb34) (HI.out.2.trans (hb34.mono HI.out.2.size)))
      obtain ⟨p0, p1, p2, p3, p4, p5⟩ := hp.all
      obtain ⟨f0, f1, f2, f3, f4, f5, f6, f7, f8, f9, f10⟩ := (HSF.out.below HI4.out.2).all
      clear hb3 hp hb34 d0 d1 d2 d3 d4 d5 HI
      go_wp2_with fail
      refine (HC.out (atP x (k : Int)) w4 (HT.out.below HI4.out.2)).mono ?_
      rintro e w5 ⟨rfl, hb5⟩
      have HI5 := Lib.hid (And.intro (HI4.out.1.below hb5) (HI4.out.2.trans (hb5.mono HI4.out.2.size)))
      clear hb5 HI4 p0 p1 p2 p3 p4 p5 f0 f1 f2 f3 f4 f5 f6 f7 f8 f9 f10
      cases hcv : covB kd pl (atP x (k : Int)) with
      | false =>
        have HN := Lib.hid (cvF_no hcv)
        clear hcv
        go_wp2_with fail
        go_round
        case rel => exact ⟨k + 1, a, c, by go_num, hlt, by rw [HN.out], by rw [HN.out]; exact HI5⟩
        case measure => simp [intOf]; omega
      | true =>
        have HN := Lib.hid (cvF_yes hcv)
        have hlen := cvF_len x kd pl k
        have hs5 := HI5.out.2.size
        clear hcv
        go_wp2_with (at_builtin; refine wpList_app1 (α := Nat) rfl _ _ rfl k (by rfl) (HI5.out.1.alloc (.cells #[.int .i64 (k : Int)] 3)) rfl (cell_new _ _ _) (by omega) (by simp; omega) ?_; intro a3 cap3 w6 hown3 hg3 hb3 hw3; have HO3 := Lib.hid hown3; have HB3 := Lib.hid hb3; clear hown3 hg3 hb3 hw3)
        go_round
        case rel =>
          have hbw := HI5.out.2.trans (((Below.refl _ w5).alloc HI5.out.2.size (.cells #[.int .i64 (k : Int)] 3)).trans HB3.out)
          have hl : (cvF x kd pl (k + 1)).length = (cvF x kd pl k).length + 1 := by rw [HN.out]; simp
          exact ⟨k + 1, a3, cap3, by go_num, hlt, by rw [hl], by rw [hl, HN.out]; exact Lib.hid ⟨HO3.out, hbw⟩⟩
        case measure => simp [intOf]; omega
    · obtain rfl : k = sz := by omega
      go_wp2_with fail
      go_ret
      exact ⟨a, c, rfl, HI.out.1.mono HB0.out.size, HB0.out.trans (HI.out.2.mono HB0.out.size)⟩
end Go.Proofs.YtdgkdoccllolpaaDoor.P
