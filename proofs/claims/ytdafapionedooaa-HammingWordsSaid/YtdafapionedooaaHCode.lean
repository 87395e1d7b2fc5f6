/- hamming.bitWith, Column, Check, Syndrome. -/
import Derived.Test.YtdafapionedooaaHSum
namespace Go.Proofs.Ytdafapionedooaa.G.H
open Go Go.RowKit Go.Shelf

/-- The bit that has a column, or -1. -/
def bitI (s : Y) : Int := if idx s < 72 then (idx s : Int) else -1
theorem bit_ix (s : Y) : ixOf cols s = bitI s := by
  unfold bitI
  by_cases h : idx s < 72
  · rw [if_pos h]
    refine ix_at (by rw [cols_len]; exact h) ?_ (fun j hj => ?_)
    · rw [← col_eq]; exact idx_col h
    · rw [← col_eq]; exact idx_not hj
  · rw [if_neg h]
    have := idx_le s
    refine ix_none (fun j hj => ?_)
    rw [cols_len] at hj
    rw [← col_eq]; exact idx_not (by omega)
attribute [irreducible] bitI

set_option maxRecDepth 100000 in
set_option maxHeartbeats 4000000 in
/-- **hamming.bitWith** -/
theorem bitWith_any (s : Y) (w : World) :
    Calls Try.prog 25 #[.int .u8 (s.toNat : Int)] w fun e W => e = .returned (.int .i64 (bitI s)) ∧ Below w.heap.size w W := by
  have HC := Lib.hid (columns_any w)
  have zv := zeroV_arr
  obtain ⟨z72, hz72⟩ : ∃ z, arrV (List.replicate 72 0) = z := ⟨_, rfl⟩
  have hzl : z72.size = (arrV cols).size := by rw [← hz72, arr_size, arr_size, cols_len, List.length_replicate]
  rw [hz72] at zv
  have HZL := Lib.hid hzl
  have HSZ := Lib.hid (show (Try.prog.info? 52).map (·.size) = some (arrV cols).size by rw [size_arr, arr_size, cols_len])
  clear hz72 hzl
  go_enter Try.func25, Try.ntmps25
  go_wp2_with fail
  refine HC.out.mono ?_
  rintro e w1 ⟨rfl, hb1⟩
  have HB1 := Lib.hid hb1
  clear hb1
  have sl := slice_all w1.heap.size
  have hrow : Row (w1.alloc (.cells (arrV cols) 52)) (some ⟨w1.heap.size, 0, none⟩) cols 72 := by
    have := colRow (heap_alloc_last w1 (.cells (arrV cols) 52)) 72 (Nat.le_refl _)
    rwa [List.take_of_length_le (by rw [cols_len]; exact Nat.le_refl _)] at this
  have HI := Lib.hid (show Calls Try.prog 28 #[.slice (some ⟨w1.heap.size, 0, none⟩) 72 72, .int .u8 (s.toNat : Int)] (w1.alloc (.cells (arrV cols) 52)) _ from cols_len ▸ index_any _ cols 72 s _ hrow (by rw [cols_len]; decide))
  obtain ⟨av, hav⟩ : ∃ v, arrV cols = v := ⟨_, rfl⟩
  have HAA := Lib.hid (show av.all (·.oneCell') = true by rw [← hav]; exact arr_all _)
  rw [hav] at HZL HSZ HI ⊢
  clear hav hrow
  go_wp2_with (first | (refine wpList_store_row rfl 52 _ _ rfl w1.heap.size av rfl rfl 52 z72 (heap_alloc_last _ _) HSZ.out HZL.out HAA.out ?_; rw [World.setRow_alloc_new]) | (go_at_call 28; refine HI.out.mono ?_; rintro e w2 ⟨rfl, rfl⟩))
  go_ret
  exact ⟨ret_int (bit_ix s), HB1.out.alloc HB1.out.size _⟩

theorem index_arr (k : Nat) (hk : k < 72) (W : World) : Sem.run Try.prog (Instr.index 52 (.agg (arrV cols)) (.int .i64 (k : Int))) W = .ok (.int .u8 ((col k).toNat : Int)) W := by
  have h1 : (0 : Int) ≤ (k : Int) ∧ (k : Int) < 72 := by omega
  have h2 := arr_get cols k (by rw [cols_len]; exact hk)
  rw [← col_eq] at h2
  simp [Instr.index, asIntOf, part, Try.sizeOf5, Try.isAgg5, h2]
  intro h
  omega

set_option maxRecDepth 100000 in
set_option maxHeartbeats 4000000 in
/-- **hamming.Column** -/
theorem column_yes (k : Nat) (hk : k < 72) (w : World) :
    Calls Try.prog 18 #[.int .i64 (k : Int)] w fun e W => e = .returned (.tuple #[.int .u8 ((col k).toNat : Int), .int .i64 0]) ∧ Below w.heap.size w W := by
  have HC := Lib.hid (columns_any w)
  have ix := index_arr k hk
  obtain ⟨av, hav⟩ : ∃ v, arrV cols = v := ⟨_, rfl⟩
  rw [hav] at HC ix
  clear hav
  obtain ⟨c, hc⟩ : ∃ c, col k = c := ⟨_, rfl⟩
  rw [hc] at ix ⊢
  clear hc
  go_enter Try.func18, Try.ntmps18
  go_wp2_with fail
  refine HC.out.mono ?_
  rintro e w1 ⟨rfl, hb1⟩
  have HB1 := Lib.hid hb1
  clear hb1
  go_wp2_with fail
  go_ret2
  exact ⟨rfl, HB1.out⟩
set_option maxRecDepth 100000 in
theorem column_no (k : Int) (hk : k < 0 ∨ 72 ≤ k) (w : World) :
    Calls Try.prog 18 #[.int .i64 k] w fun e W => e = .returned (.tuple #[.int .u8 0, .int .i64 2]) ∧ Below w.heap.size w W := by
  by_cases h : k < 0
  · go_enter Try.func18, Try.ntmps18
    go_wp2_with fail
    go_ret2
    exact ⟨rfl, Below.refl _ _⟩
  · have h2 : 72 ≤ k := by omega
    clear hk
    go_enter Try.func18, Try.ntmps18
    go_wp2_with fail
    go_ret2
    exact ⟨rfl, Below.refl _ _⟩

set_option maxRecDepth 100000 in
/-- **hamming.Check** -/
theorem check_yes (a : Option Addr) (zs : List Y) (cap : Nat) (w : World) (hR : Row w a zs cap) (hl : zs.length = 8) :
    Calls Try.prog 11 #[.slice a 8 cap] w fun e W => e = .returned (.tuple #[.int .u8 ((syn zs 64).toNat : Int), .int .i64 0]) ∧ Below w.heap.size w W := by
  have hs := sum_any a zs cap w hR (by omega)
  rw [hl] at hs
  have HS := Lib.hid hs
  clear hs hl hR
  go_enter Try.func11, Try.ntmps11
  go_wp2_with fail
  refine HS.out.mono ?_
  rintro e w1 ⟨rfl, hb1⟩
  go_wp2_with fail
  go_ret2
  exact ⟨rfl, hb1⟩
set_option maxRecDepth 100000 in
theorem check_no (a : Option Addr) (n cap : Nat) (w : World) (hl : n ≠ 8) :
    Calls Try.prog 11 #[.slice a n cap] w fun e W => e = .returned (.tuple #[.int .u8 0, .int .i64 7]) ∧ Below w.heap.size w W := by
  have hb : ((n : Int) != 8) = true := by simp; omega
  clear hl
  go_enter Try.func11, Try.ntmps11
  go_wp2_with fail
  go_ret2
  exact ⟨rfl, Below.refl _ _⟩
set_option maxRecDepth 100000 in
/-- **hamming.Syndrome** -/
theorem syndrome_yes (a : Option Addr) (zs : List Y) (cap : Nat) (w : World) (hR : Row w a zs cap) (hl : zs.length = 9) :
    Calls Try.prog 13 #[.slice a 9 cap] w fun e W => e = .returned (.tuple #[.int .u8 ((syn zs 72).toNat : Int), .int .i64 0]) ∧ Below w.heap.size w W := by
  have hs := sum_any a zs cap w hR (by omega)
  rw [hl] at hs
  have HS := Lib.hid hs
  clear hs hl hR
  go_enter Try.func13, Try.ntmps13
  go_wp2_with fail
  refine HS.out.mono ?_
  rintro e w1 ⟨rfl, hb1⟩
  go_wp2_with fail
  go_ret2
  exact ⟨rfl, hb1⟩
set_option maxRecDepth 100000 in
theorem syndrome_no (a : Option Addr) (n cap : Nat) (w : World) (hl : n ≠ 9) :
    Calls Try.prog 13 #[.slice a n cap] w fun e W => e = .returned (.tuple #[.int .u8 0, .int .i64 7]) ∧ Below w.heap.size w W := by
  have hb : ((n : Int) != 9) = true := by simp; omega
  clear hl
  go_enter Try.func13, Try.ntmps13
  go_wp2_with fail
  go_ret2
  exact ⟨rfl, Below.refl _ _⟩
end Go.Proofs.Ytdafapionedooaa.G.H
