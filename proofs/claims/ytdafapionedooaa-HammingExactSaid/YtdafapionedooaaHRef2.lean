/- ref06.Column, sum, Check, Syndrome. -/
import Derived.Test.YtdafapionedooaaHRef1
namespace Go.Proofs.Ytdafapionedooaa.G.H
open Go Go.RowKit Go.Shelf

set_option maxRecDepth 100000 in
set_option maxHeartbeats 4000000 in
/-- **ref06.Column** -/
theorem rcolumn_yes (k : Nat) (hk : k < 72) (w : World) :
    Calls Try.prog 19 #[.int .i64 (k : Int)] w fun e W => e = .returned (.tuple #[.int .u8 ((col k).toNat : Int), .int .i64 0]) ∧ Below w.heap.size w W := by
  have HC := Lib.hid (rcolumns_any w)
  go_enter Try.func19, Try.ntmps19
  go_wp2_with fail
  refine HC.out.mono ?_
  rintro e w1 ⟨a, c, rfl, ho, hb1⟩
  have HB1 := Lib.hid hb1
  obtain ⟨g, rfl, _, _⟩ := ho.fresh (by rw [cols_len]; decide)
  have c1 := ho.cellY k (by rw [cols_len]; exact hk)
  rw [← col_eq] at c1
  clear hb1 ho
  go_wp2_with fail
  go_ret2
  exact ⟨rfl, HB1.out⟩
set_option maxRecDepth 100000 in
theorem rcolumn_no (k : Int) (hk : k < 0 ∨ 72 ≤ k) (w : World) :
    Calls Try.prog 19 #[.int .i64 k] w fun e W => e = .returned (.tuple #[.int .u8 0, .int .i64 2]) ∧ Below w.heap.size w W := by
  by_cases h : k < 0
  · go_enter Try.func19, Try.ntmps19
    go_wp2_with fail
    go_ret2
    exact ⟨rfl, Below.refl _ _⟩
  · have h2 : 71 < k := by omega
    clear hk
    go_enter Try.func19, Try.ntmps19
    go_wp2_with fail
    go_ret2
    exact ⟨rfl, Below.refl _ _⟩

set_option maxRecDepth 100000 in
set_option maxHeartbeats 4000000 in
/-- **ref06.sum** -/
theorem rsum_any (a : Option Addr) (zs : List Y) (cap : Nat) (w : World) (hR : Row w a zs cap) (hl : zs.length ≤ 9) :
    Calls Try.prog 23 #[.slice a zs.length cap] w fun e W => e = .returned (.int .u8 ((syn zs (8 * zs.length)).toNat : Int)) ∧ Below w.heap.size w W := by
  have hroom := hR.room
  have hmost := hR.most
  have HR := Lib.hid hR
  have HC := Lib.hid (rcolumns_any w)
  clear hR
  go_enter Try.func23, Try.ntmps23
  go_wp2_with fail
  refine HC.out.mono ?_
  rintro e w1 ⟨a1, cc, rfl, ho, hb1⟩
  obtain ⟨g, rfl, _, _⟩ := ho.fresh (by rw [cols_len]; decide)
  have HB1 := Lib.hid hb1
  have HO := Lib.hid ho
  have HR1 := Lib.hid (HR.out.below hb1)
  have hrm := ho.room
  clear hb1 ho HC HR
  go_wp2_with fail
  go_loop [4, 5] (fun s i => ∃ k : Nat, i = .int .i64 (k : Int) ∧ k ≤ zs.length ∧ s = .int .u8 ((syn zs (8 * k)).toNat : Int)) (fun _ i => zs.length - (intOf i).toNat)
  case atStart => exact ⟨0, rfl, Nat.zero_le _, by rw [show 8 * 0 = 0 from rfl, syn_0]; rfl⟩
  case round =>
    obtain ⟨i, rfl, hi, rfl⟩ := hrel
    by_cases hlt : i < zs.length
    · obtain ⟨b, off, rfl, hc⟩ := HR1.out.elY i hlt
      obtain ⟨s0, hs0⟩ : ∃ s, syn zs (8 * i) = s := ⟨_, rfl⟩
      have HS0 := Lib.hid hs0
      rw [hs0]
      clear hs0
      obtain ⟨v, hv⟩ : ∃ v, el zs i = v := ⟨_, rfl⟩
      rw [hv] at hc
      have HV := Lib.hid hv
      clear hv
      go_wp2_with fail
      go_loop [4, 6] (fun s j => ∃ k : Nat, j = .int .i64 (k : Int) ∧ k ≤ 8 ∧ s = .int .u8 ((syn zs (8 * i + k)).toNat : Int)) (fun _ j => 8 - (intOf j).toNat)
      case atStart => exact ⟨0, rfl, Nat.zero_le _, by rw [Nat.add_zero, HS0.out]⟩
      case round =>
        obtain ⟨k, rfl, hk, rfl⟩ := hrel
        obtain ⟨x, hx⟩ : ∃ x, syn zs (8 * i + k) = x := ⟨_, rfl⟩
        by_cases hk8 : k < 8
        · obtain ⟨n, hn⟩ : ∃ n, 8 * i + k = n := ⟨_, rfl⟩
          have hni : 8 * (i : Int) + (k : Int) = (n : Int) := by omega
          have hn72 : n < 72 := by omega
          have hs : syn zs (n + 1) = x ^^^ (if v.getLsbD k then col n else 0) := by
            rw [syn_succ, ← hx, hn]; unfold bitAt; rw [show n / 8 = i by omega, show n % 8 = k by omega, HV.out]
          have hbit := bit_Y v k
          rw [Nat.min_eq_left (show k ≤ 64 by omega)] at hbit
          have hcn := HO.out.cellY n (by rw [cols_len]; exact hn72)
          rw [← col_eq] at hcn
          obtain ⟨c, hcc⟩ : ∃ c, col n = c := ⟨_, rfl⟩
          rw [hcc] at hs hcn
          have HN1 := Lib.hid (show 8 * i + (k + 1) = n + 1 by omega)
          rw [hx]
          clear hx hn hcc
          cases hb : v.getLsbD k with
          | false =>
            rw [hb, show ((y1 false).toNat : Int) = 0 from rfl] at hbit
            rw [hb, if_neg (by decide), Y.xor_zero] at hs
            have HS := Lib.hid hs
            clear hb hs hcn
            go_wp2_with fail
            go_round
            case rel => exact ⟨k + 1, by go_num, hk8, by rw [HN1.out, HS.out]⟩
            case measure => simp [intOf]; omega
          | true =>
            rw [hb, show ((y1 true).toNat : Int) = 1 from rfl] at hbit
            rw [hb, if_pos rfl] at hs
            have hx0 := xor_Y x c
            obtain ⟨z, hz⟩ : ∃ z, x ^^^ c = z := ⟨_, rfl⟩
            rw [hz] at hs hx0
            have HS := Lib.hid hs
            clear hb hs hz
            go_wp2_with fail
            go_round
            case rel => exact ⟨k + 1, by go_num, hk8, by rw [HN1.out, HS.out]⟩
            case measure => simp [intOf]; omega
        · obtain rfl : k = 8 := by omega
          have HX := Lib.hid (show syn zs (8 * (i + 1)) = x by rw [show 8 * (i + 1) = 8 * i + 8 by omega]; exact hx)
          rw [hx]
          clear hx
          go_wp2_with fail
          go_round
          case rel => exact ⟨i + 1, by go_num, hlt, by rw [HX.out]⟩
          case measure => simp [intOf]; omega
    · obtain rfl : i = zs.length := by omega
      go_wp2_with fail
      go_ret
      exact ⟨rfl, HB1.out⟩

set_option maxRecDepth 100000 in
/-- **ref06.Check** -/
theorem rcheck_yes (a : Option Addr) (zs : List Y) (cap : Nat) (w : World) (hR : Row w a zs cap) (hl : zs.length = 8) :
    Calls Try.prog 12 #[.slice a 8 cap] w fun e W => e = .returned (.tuple #[.int .u8 ((syn zs 64).toNat : Int), .int .i64 0]) ∧ Below w.heap.size w W := by
  have hs := rsum_any a zs cap w hR (by omega)
  rw [hl] at hs
  have HS := Lib.hid hs
  clear hs hl hR
  go_enter Try.func12, Try.ntmps12
  go_wp2_with fail
  refine HS.out.mono ?_
  rintro e w1 ⟨rfl, hb1⟩
  go_wp2_with fail
  go_ret2
  exact ⟨rfl, hb1⟩
set_option maxRecDepth 100000 in
theorem rcheck_no (a : Option Addr) (n cap : Nat) (w : World) (hl : n ≠ 8) :
    Calls Try.prog 12 #[.slice a n cap] w fun e W => e = .returned (.tuple #[.int .u8 0, .int .i64 7]) ∧ Below w.heap.size w W := by
  have hb : ((n : Int) != 8) = true := by simp; omega
  clear hl
  go_enter Try.func12, Try.ntmps12
  go_wp2_with fail
  go_ret2
  exact ⟨rfl, Below.refl _ _⟩
set_option maxRecDepth 100000 in
/-- **ref06.Syndrome** -/
theorem rsyndrome_yes (a : Option Addr) (zs : List Y) (cap : Nat) (w : World) (hR : Row w a zs cap) (hl : zs.length = 9) :
    Calls Try.prog 14 #[.slice a 9 cap] w fun e W => e = .returned (.tuple #[.int .u8 ((syn zs 72).toNat : Int), .int .i64 0]) ∧ Below w.heap.size w W := by
  have hs := rsum_any a zs cap w hR (by omega)
  rw [hl] at hs
  have HS := Lib.hid hs
  clear hs hl hR
  go_enter Try.func14, Try.ntmps14
  go_wp2_with fail
  refine HS.out.mono ?_
  rintro e w1 ⟨rfl, hb1⟩
  go_wp2_with fail
  go_ret2
  exact ⟨rfl, hb1⟩
set_option maxRecDepth 100000 in
theorem rsyndrome_no (a : Option Addr) (n cap : Nat) (w : World) (hl : n ≠ 9) :
    Calls Try.prog 14 #[.slice a n cap] w fun e W => e = .returned (.tuple #[.int .u8 0, .int .i64 7]) ∧ Below w.heap.size w W := by
  have hb : ((n : Int) != 9) = true := by simp; omega
  clear hl
  go_enter Try.func14, Try.ntmps14
  go_wp2_with fail
  go_ret2
  exact ⟨rfl, Below.refl _ _⟩
end Go.Proofs.Ytdafapionedooaa.G.H
