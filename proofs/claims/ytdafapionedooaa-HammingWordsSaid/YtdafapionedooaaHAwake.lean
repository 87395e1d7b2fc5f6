/- law06.awake. -/
import Derived.Test.YtdafapionedooaaHDec
namespace Go.Proofs.Ytdafapionedooaa.G.H
open Go Go.RowKit Go.Shelf

def awL : List Y := [0, 0, 4, 0, 0, 0, 0, 0, 0]
theorem aw_1 : ((col 1).toNat : Int) = 11 := by decide +kernel
theorem aw_56 : ((col 56).toNat : Int) = 31 := by decide +kernel
theorem aw_syn : syn awL 72 = col 18 := by decide +kernel
theorem aw_dec : decO (syn awL 72) = 1 ∧ decB (syn awL 72) = 18 := by
  rw [aw_syn]
  have h := dec_1 (w := awL) (s := col 18) (col_ne (by decide)) (by rw [idx_of_col (by decide)]; decide)
  rw [idx_of_col (by decide)] at h
  exact ⟨h.1, h.2.2.2⟩

set_option maxRecDepth 100000 in
set_option maxHeartbeats 4000000 in
theorem awake_yes (w : World) : Calls Try.prog 8 #[] w fun e W => e = .returned (.bool true) ∧ Below w.heap.size w W := by
  have HC1 : Hid (∀ W, Calls Try.prog 18 #[.int .i64 1] W fun e W' => e = .returned (.tuple #[.int .u8 11, .int .i64 0]) ∧ Below W.heap.size W W') := Lib.hid (fun W => by
    have := column_yes 1 (by decide) W
    rwa [aw_1] at this)
  have HC2 : Hid (∀ W, Calls Try.prog 18 #[.int .i64 56] W fun e W' => e = .returned (.tuple #[.int .u8 31, .int .i64 0]) ∧ Below W.heap.size W W') := Lib.hid (fun W => by
    have := column_yes 56 (by decide) W
    rwa [aw_56] at this)
  go_enter Try.func8, Try.ntmps8
  go_wp2_with fail
  refine (HC1.out _).mono ?_
  rintro e w1 ⟨rfl, hb1⟩
  have HB1 := Lib.hid hb1
  clear hb1
  go_wp2_with fail
  refine (HC2.out _).mono ?_
  rintro e w2 ⟨rfl, hb2⟩
  have HB2 := Lib.hid (HB1.out.trans (hb2.mono HB1.out.size))
  clear hb2
  have hrow := row_list (α := Y) w2 awL 5 (by show 9 ≤ 1000000; decide)
  have hb3 := HB2.out.alloc HB2.out.size (.cells (awL.map Elt.gv).toArray 5)
  have hd := decode_yes _ awL 9 _ hrow rfl
  have HD := Lib.hid (show Calls Try.prog 15 #[.slice (some ⟨w2.heap.size, 0, none⟩) 9 9] (w2.alloc (.cells #[.int .u8 0, .int .u8 0, .int .u8 4, .int .u8 0, .int .u8 0, .int .u8 0, .int .u8 0, .int .u8 0, .int .u8 0] 5)) _ from hd)
  have HB3 := Lib.hid (show Below w.heap.size w (w2.alloc (.cells #[.int .u8 0, .int .u8 0, .int .u8 4, .int .u8 0, .int .u8 0, .int .u8 0, .int .u8 0, .int .u8 0, .int .u8 0] 5)) from hb3)
  clear hrow hb3 hd HC1 HC2
  go_wp2_with fail
  refine HD.out.mono ?_
  rintro e w4 ⟨a, c, a2, c2, rfl, _, _, hb4⟩
  have HB4 := Lib.hid (HB3.out.trans (hb4.mono HB3.out.size))
  obtain ⟨d1, d2⟩ := aw_dec
  rw [d1, d2]
  obtain ⟨n1, hn1⟩ : ∃ n, (decW awL (syn awL 72)).length = n := ⟨_, rfl⟩
  obtain ⟨n2, hn2⟩ : ∃ n, (decC (syn awL 72)).length = n := ⟨_, rfl⟩
  rw [hn1, hn2]
  have hz := Box.new w4 34 [.int .i64 0, .slice none 0 0, .slice none 0 0]
  have hz' : Box (w4.alloc (.cells #[.int .i64 0, .slice none 0 0, .slice none 0 0] 34)) w4.heap.size 34 [.int .i64 0, .slice none 0 0, .slice none 0 0] := hz
  have hw5 := HB4.out.alloc HB4.out.size (.cells #[.int .i64 0, .slice none 0 0, .slice none 0 0] 34)
  obtain ⟨p, hp⟩ : ∃ p, w4.heap.size = p := ⟨_, rfl⟩
  have hwp : w.heap.size ≤ p := by rw [← hp]; exact HB4.out.size
  obtain ⟨w5, hn5⟩ : ∃ w5, w4.alloc (.cells #[.int .i64 0, .slice none 0 0, .slice none 0 0] 34) = w5 := ⟨_, rfl⟩
  rw [hp, hn5] at hz'
  rw [hn5] at hw5
  have c0 := hz'.cell 0 rfl
  have c1 := hz'.cell 1 rfl
  have c2' := hz'.cell 2 rfl
  have f0 := hz'.free 0
  have f1 := hz'.free 1
  have f2 := hz'.free 2
  have hz6 := box3_set hz' (.int .i64 1) (.slice a n1 c) (.slice a2 n2 c2)
  have HW6 := Lib.hid (below3 hw5 hwp (.int .i64 1) (.slice a n1 c) (.slice a2 n2 c2))
  have k0 := hz6.cell 0 rfl
  clear hn1 hn2 d1 d2 hz hz' hw5 hb4 hz6 HD HB3
  go_wp2_with fail
  go_ret
  exact ⟨rfl, HW6.out⟩
end Go.Proofs.Ytdafapionedooaa.G.H
