/- hamming.sumOfColumns, bitWith, Column, Check, Syndrome. -/
import Derived.Test.YtdafapionedooaaHCols
import Derived.Test.YtdafapionedooaaGIndex
namespace Go.Proofs.Ytdafapionedooaa.G.H
open Go Go.RowKit Go.Shelf

/-- The list of the columns lies in a block of its own. -/
theorem colRow {W : World} {g : Nat} (h : W.heap[g]? = some (.cells (arrV cols) 52 (0, 0))) (n : Nat) (hn : n ≤ 72) : Row W (some ⟨g, 0, none⟩) (cols.take n) 72 := by
  refine ⟨by rw [List.length_take, cols_len]; omega, by omega, fun j hj => ⟨g, 0, rfl, ?_⟩⟩
  rw [List.length_take, cols_len] at hj
  rw [cell_of_row _ _ _ _ _ _ h, Nat.zero_add, arr_get _ _ (by rw [cols_len]; omega), el_take, if_pos (by omega)]
  rfl

theorem arr_u : ∀ w, Sem.run Try.prog (underlying 52) w = .ok (.array 72 5) w := run_underlying Try.underlying52
theorem slice_arr (g n : Nat) (hn : n ≤ 72) (W : World) : Sem.run Try.prog (Instr.sliceAt 52 (.pointer (some ⟨g, 0, none⟩)) none (some (.int .i64 (n : Int))) none) W = .ok (.slice (some ⟨g, 0, none⟩) n 72) W := by
  have h1 : (n : Int) ≤ 72 := by omega
  simp [Instr.sliceAt, Instr.sureAddr, Instr.sliceBounds, run_sliceBound, Try.sizeOf5, h1, Addr.add]
theorem slice_all (g : Nat) (W : World) : Sem.run Try.prog (Instr.sliceAt 52 (.pointer (some ⟨g, 0, none⟩)) none none none) W = .ok (.slice (some ⟨g, 0, none⟩) 72 72) W := by
  simp [Instr.sliceAt, Instr.sureAddr, Instr.sliceBounds, Try.sizeOf5, Addr.add]

set_option maxRecDepth 100000 in
set_option maxHeartbeats 4000000 in
/-- **hamming.sumOfColumns** -/
theorem sum_any (a : Option Addr) (zs : List Y) (cap : Nat) (w : World) (hR : Row w a zs cap) (hl : zs.length ≤ 9) :
    Calls Try.prog 22 #[.slice a zs.length cap] w fun e W => e = .returned (.int .u8 ((syn zs (8 * zs.length)).toNat : Int)) ∧ Below w.heap.size w W := by
  have hroom := hR.room
  have hmost := hR.most
  have HR := Lib.hid hR
  have HC := Lib.hid (columns_any w)
  have zv := zeroV_arr
  have hs := size_arr
  obtain ⟨z72, hz72⟩ : ∃ z, arrV (List.replicate 72 0) = z := ⟨_, rfl⟩
  have hzl : z72.size = (arrV cols).size := by rw [← hz72, arr_size, arr_size, cols_len, List.length_replicate]
  rw [hz72] at zv
  have HZL := Lib.hid hzl
  obtain ⟨m, hm⟩ : ∃ m, 8 * zs.length = m := ⟨_, rfl⟩
  have hm72 : m ≤ 72 := by omega
  have HM := Lib.hid hm
  have HSZ := Lib.hid (show (Try.prog.info? 52).map (·.size) = some (arrV cols).size by rw [size_arr, arr_size, cols_len])
  clear hR hz72 hzl hs hm
  go_enter Try.func22, Try.ntmps22
  go_wp2_with fail
  refine HC.out.mono ?_
  rintro e w1 ⟨rfl, hb1⟩
  have HB1 := Lib.hid hb1
  clear hb1
  have sl : ∀ W : World, Sem.run Try.prog (Instr.sliceAt 52 (.pointer (some ⟨w1.heap.size, 0, none⟩)) none (some (.int .i64 (8 * (zs.length : Int)))) none) W = (.ok (.slice (some ⟨w1.heap.size, 0, none⟩) m 72) W) := fun W => by
    rw [← HM.out]
    have := slice_arr w1.heap.size (8 * zs.length) (by omega) W
    rwa [show ((8 * zs.length : Nat) : Int) = 8 * (zs.length : Int) by omega] at this
  obtain ⟨av, hav⟩ : ∃ v, arrV cols = v := ⟨_, rfl⟩
  have HAV := Lib.hid hav
  have HAA := Lib.hid (show av.all (·.oneCell') = true by rw [← hav]; exact arr_all _)
  rw [hav] at HZL HSZ ⊢
  clear hav
  go_wp2_with (refine wpList_store_row rfl 52 _ _ rfl w1.heap.size av rfl rfl 52 z72 (heap_alloc_last _ _) HSZ.out HZL.out HAA.out ?_; rw [World.setRow_alloc_new])
  have hrow : Row (w1.alloc (.cells av 52)) (some ⟨w1.heap.size, 0, none⟩) (cols.take m) 72 := colRow (by rw [HAV.out]; exact heap_alloc_last _ _) m hm72
  have HRW := Lib.hid hrow
  have hb2 : Below w.heap.size w (w1.alloc (.cells av 52)) := HB1.out.alloc HB1.out.size _
  have HR2 := Lib.hid (HR.out.below hb2)
  have HB2 := Lib.hid hb2
  obtain ⟨g, hg⟩ : ∃ g, w1.heap.size = g := ⟨_, rfl⟩
  obtain ⟨W, hW⟩ : ∃ W, w1.alloc (.cells av 52) = W := ⟨_, rfl⟩
  rw [hW, hg] at HRW
  rw [hW] at HR2 HB2
  rw [hW, hg]
  clear hW hg hb2 hrow sl zv HAA HZL HSZ HB1 HC HR
  go_loop [13, 3] (fun i s => ∃ k : Nat, i = .int .i64 (k : Int) ∧ k ≤ m ∧ s = .int .u8 ((syn zs k).toNat : Int)) (fun i _ => m - (intOf i).toNat)
  case atStart => exact ⟨0, rfl, Nat.zero_le _, by rw [syn_0]; rfl⟩
  case round =>
    obtain ⟨k, rfl, hk, rfl⟩ := hrel
    by_cases hlt : k < m
    · obtain ⟨q, hq⟩ : ∃ q, k / 8 = q := ⟨_, rfl⟩
      obtain ⟨r, hr⟩ : ∃ r, k % 8 = r := ⟨_, rfl⟩
      have hql : q < zs.length := by have := HM.out; omega
      have hqi : (k : Int) / 8 = (q : Int) := by omega
      have hri : (k : Int) % 8 = (r : Int) := by omega
      have hr8 : r < 8 := by omega
      obtain ⟨_, _, e0, hc0⟩ := HRW.out.elY k (by rw [List.length_take, cols_len]; omega)
      cases e0
      obtain ⟨b, off, rfl, hc⟩ := HR2.out.elY q hql
      have hcol : el (cols.take m) k = col k := by rw [el_take, if_pos hlt, col_eq]
      rw [hcol, Nat.zero_add] at hc0
      have hbit := bit_Y (el zs q) r
      rw [Nat.min_eq_left (show r ≤ 64 by omega)] at hbit
      have hs : syn zs (k + 1) = syn zs k ^^^ (if (el zs q).getLsbD r then col k else 0) := by rw [syn_succ]; unfold bitAt; rw [hq, hr]
      obtain ⟨x, hx⟩ : ∃ x, syn zs k = x := ⟨_, rfl⟩
      obtain ⟨c, hcc⟩ : ∃ c, col k = c := ⟨_, rfl⟩
      rw [hcc] at hs hc0
      rw [hx] at hs ⊢
      have hxl := x.isLt
      have hcl := c.isLt
      clear hq hr hcol hx hcc
      cases hb : (el zs q).getLsbD r with
      | false =>
        rw [hb, show ((y1 false).toNat : Int) = 0 from rfl] at hbit
        rw [hb, if_neg (by decide), Y.xor_zero] at hs
        have hx0 := xor_Y x 0
        rw [show ((0 : Y).toNat : Int) = 0 from rfl, Y.xor_zero] at hx0
        have HS := Lib.hid hs
        clear hb hs
        go_wp2_with fail
        go_round
        case rel => exact ⟨k + 1, by go_num, hlt, by rw [HS.out]⟩
        case measure => simp [intOf]; omega
      | true =>
        rw [hb, show ((y1 true).toNat : Int) = 1 from rfl] at hbit
        rw [hb, if_pos rfl] at hs
        have hx0 := xor_Y x c
        obtain ⟨z, hz⟩ : ∃ z, x ^^^ c = z := ⟨_, rfl⟩
        rw [hz] at hs hx0
        clear hz
        have HS := Lib.hid hs
        clear hb hs
        go_wp2_with fail
        go_round
        case rel => exact ⟨k + 1, by go_num, hlt, by rw [HS.out]⟩
        case measure => simp [intOf]; omega
    · obtain rfl : k = m := by omega
      go_wp2_with fail
      go_ret
      exact ⟨by rw [HM.out]; rfl, HB2.out⟩
end Go.Proofs.Ytdafapionedooaa.G.H
