/- slices.Index of a byte in a slice of bytes. -/
import Derived.Test.YtdafapionedooaaGU8
namespace Go.Proofs.Ytdafapionedooaa.G
open Go Go.RowKit Go.Shelf
open Elt

/-- The first place of y, or -1. -/
def ixOf (zs : List Y) (y : Y) : Int := if zs.findIdx (· == y) < zs.length then (zs.findIdx (· == y) : Int) else -1
theorem find_at {zs : List Y} {y : Y} {k : Nat} (hk : k < zs.length) (h : el zs k = y) (hno : ∀ j, j < k → el zs j ≠ y) : zs.findIdx (· == y) = k := by
  rcases Nat.lt_trichotomy (zs.findIdx (· == y)) k with h1 | h1 | h1
  · have := List.findIdx_getElem (xs := zs) (p := (· == y)) (w := by omega)
    refine absurd ?_ (hno _ h1)
    rw [el_lt (by omega)]
    exact eq_of_beq this
  · exact h1
  · have := List.not_of_lt_findIdx (xs := zs) (p := (· == y)) h1
    rw [el_lt hk] at h
    rw [h] at this
    simp at this
theorem ix_at {zs : List Y} {y : Y} {k : Nat} (hk : k < zs.length) (h : el zs k = y) (hno : ∀ j, j < k → el zs j ≠ y) : ixOf zs y = (k : Int) := by
  unfold ixOf
  rw [find_at hk h hno, if_pos hk]
theorem ix_none {zs : List Y} {y : Y} (hno : ∀ j, j < zs.length → el zs j ≠ y) : ixOf zs y = -1 := by
  unfold ixOf
  rw [if_neg]
  intro h
  have := List.findIdx_getElem (xs := zs) (p := (· == y)) (w := h)
  refine hno _ h ?_
  rw [el_lt h]
  exact eq_of_beq this
attribute [irreducible] ixOf

set_option maxRecDepth 100000 in
set_option maxHeartbeats 1000000 in
/-- **slices.Index** -/
theorem index_any (a : Option Addr) (zs : List Y) (cap : Nat) (y : Y) (w : World) (hR : Row w a zs cap) (hl : zs.length < 100000) :
    Calls Try.prog 28 #[.slice a zs.length cap, .int .u8 (y.toNat : Int)] w fun e W => e = .returned (.int .i64 (ixOf zs y)) ∧ w = W := by
  have hroom := hR.room
  have hmost := hR.most
  have HR := Lib.hid hR
  clear hR
  go_enter Try.func28, Try.ntmps28
  go_wp2_with fail
  go_loop [8] (fun i => ∃ k : Nat, i = .int .i64 (k : Int) ∧ k ≤ zs.length ∧ Hid (∀ j, j < k → el zs j ≠ y)) (fun i => zs.length - (intOf i).toNat)
  case atStart => exact ⟨0, rfl, Nat.zero_le _, Lib.hid (fun j h => absurd h (Nat.not_lt_zero j))⟩
  case round =>
    obtain ⟨k, rfl, hk, HN⟩ := hrel
    by_cases hlt : k < zs.length
    · obtain ⟨b, off, rfl, hc⟩ := HR.out.elY k hlt
      by_cases he : el zs k = y
      · have HI := Lib.hid (ix_at hlt he HN.out)
        have hb : ((y.toNat : Int) == ((el zs k).toNat : Int)) = true := by rw [he]; simp
        clear he
        go_wp2_with fail
        go_ret
        exact ⟨ret_int HI.out.symm, rfl⟩
      · have hb : ((y.toNat : Int) == ((el zs k).toNat : Int)) = false := by
          rw [beq_eq_false_iff_ne]
          intro e
          exact he (Y.ext e.symm)
        have HE := Lib.hid he
        clear he
        go_wp2_with fail
        go_round
        case rel => exact ⟨k + 1, by go_num, hlt, Lib.hid (fun j hj => by
          by_cases e : j = k
          · rw [e]; exact HE.out
          · exact HN.out j (by omega))⟩
        case measure => simp [intOf]; omega
    · obtain rfl : k = zs.length := by omega
      have HI := Lib.hid (ix_none HN.out)
      go_wp2_with fail
      go_ret
      exact ⟨ret_int HI.out.symm, rfl⟩
end Go.Proofs.Ytdafapionedooaa.G
