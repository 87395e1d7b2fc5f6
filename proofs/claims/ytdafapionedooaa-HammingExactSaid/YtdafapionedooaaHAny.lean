/- What the functions of hamming and of its reference answer for any bytes and any number: the same. -/
import Derived.Test.YtdafapionedooaaHRef3
namespace Go.Proofs.Ytdafapionedooaa.G.H
open Go Go.RowKit Go.Shelf

def chkV (zs : List Y) : Int := if zs.length = 8 then ((syn zs 64).toNat : Int) else 0
def chkE (zs : List Y) : Int := if zs.length = 8 then 0 else 7
def synV (zs : List Y) : Int := if zs.length = 9 then ((syn zs 72).toNat : Int) else 0
def synE (zs : List Y) : Int := if zs.length = 9 then 0 else 7
def colV (k : Int) : Int := if 0 ≤ k ∧ k < 72 then ((col k.toNat).toNat : Int) else 0
def colE (k : Int) : Int := if 0 ≤ k ∧ k < 72 then 0 else 2
def dOut (zs : List Y) : Int := if zs.length = 9 then (decO (syn zs 72) : Int) else 0
def dWord (zs : List Y) : List Y := if zs.length = 9 then decW zs (syn zs 72) else []
def dChips (zs : List Y) : List Nat := if zs.length = 9 then decC (syn zs 72) else []
def dBit (zs : List Y) : Int := if zs.length = 9 then decB (syn zs 72) else 0
def dErr (zs : List Y) : Int := if zs.length = 9 then 0 else 7
theorem dChips_le (zs : List Y) : (dChips zs).length ≤ 1 := by
  unfold dChips
  split
  · unfold decC
    split
    · exact Nat.zero_le _
    · split
      · exact Nat.le_refl _
      · exact Nat.zero_le _
  · exact Nat.zero_le _
/-- What Decode answers. -/
def DecA (w : World) (zs : List Y) (e : Ending) (W : World) : Prop :=
  ∃ (a : Option Addr) (c : Nat) (a2 : Option Addr) (c2 : Nat), e = .returned (.tuple #[.agg #[.int .i64 (dOut zs), .slice a (dWord zs).length c, .slice a2 (dChips zs).length c2], .int .i64 (dBit zs), .int .i64 (dErr zs)]) ∧
    Row W a (dWord zs) c ∧ Row W a2 (dChips zs) c2 ∧ Below w.heap.size w W
theorem decA_yes {w W : World} {zs : List Y} {e : Ending} (hl : zs.length = 9) (h : DecR w zs (syn zs 72) e W) : DecA w zs e W := by
  obtain ⟨a, c, a2, c2, rfl, h1, h2, h3⟩ := h
  have e1 : dOut zs = (decO (syn zs 72) : Int) := if_pos hl
  have e2 : dWord zs = decW zs (syn zs 72) := if_pos hl
  have e3 : dChips zs = decC (syn zs 72) := if_pos hl
  have e4 : dBit zs = decB (syn zs 72) := if_pos hl
  have e5 : dErr zs = 0 := if_pos hl
  unfold DecA
  rw [e1, e2, e3, e4, e5]
  exact ⟨a, c, a2, c2, rfl, h1.rowAt, h2.rowAt, h3⟩
theorem decA_no {w W : World} {zs : List Y} {e : Ending} (hl : ¬ zs.length = 9) (h : DecNo w e W) : DecA w zs e W := by
  obtain ⟨rfl, h3⟩ := h
  have e1 : dOut zs = 0 := if_neg hl
  have e2 : dWord zs = [] := if_neg hl
  have e3 : dChips zs = [] := if_neg hl
  have e4 : dBit zs = 0 := if_neg hl
  have e5 : dErr zs = 7 := if_neg hl
  unfold DecA
  rw [e1, e2, e3, e4, e5]
  exact ⟨none, 0, none, 0, rfl, Row.nil _ _ _ (by omega), Row.nil _ _ _ (by omega), h3⟩
section
variable (a : Option Addr) (zs : List Y) (cap : Nat) (w : World) (hR : Row w a zs cap)
include hR
theorem check_any : Calls Try.prog 11 #[.slice a zs.length cap] w fun e W => e = .returned (.tuple #[.int .u8 (chkV zs), .int .i64 (chkE zs)]) ∧ Below w.heap.size w W := by
  by_cases h : zs.length = 8
  · unfold chkV chkE; rw [if_pos h, if_pos h, h]; exact check_yes a zs cap w hR h
  · unfold chkV chkE; rw [if_neg h, if_neg h]; exact check_no a zs.length cap w h
theorem rcheck_any : Calls Try.prog 12 #[.slice a zs.length cap] w fun e W => e = .returned (.tuple #[.int .u8 (chkV zs), .int .i64 (chkE zs)]) ∧ Below w.heap.size w W := by
  by_cases h : zs.length = 8
  · unfold chkV chkE; rw [if_pos h, if_pos h, h]; exact rcheck_yes a zs cap w hR h
  · unfold chkV chkE; rw [if_neg h, if_neg h]; exact rcheck_no a zs.length cap w h
theorem syndrome_any : Calls Try.prog 13 #[.slice a zs.length cap] w fun e W => e = .returned (.tuple #[.int .u8 (synV zs), .int .i64 (synE zs)]) ∧ Below w.heap.size w W := by
  by_cases h : zs.length = 9
  · unfold synV synE; rw [if_pos h, if_pos h, h]; exact syndrome_yes a zs cap w hR h
  · unfold synV synE; rw [if_neg h, if_neg h]; exact syndrome_no a zs.length cap w h
theorem rsyndrome_any : Calls Try.prog 14 #[.slice a zs.length cap] w fun e W => e = .returned (.tuple #[.int .u8 (synV zs), .int .i64 (synE zs)]) ∧ Below w.heap.size w W := by
  by_cases h : zs.length = 9
  · unfold synV synE; rw [if_pos h, if_pos h, h]; exact rsyndrome_yes a zs cap w hR h
  · unfold synV synE; rw [if_neg h, if_neg h]; exact rsyndrome_no a zs.length cap w h
theorem decode_any : Calls Try.prog 15 #[.slice a zs.length cap] w (DecA w zs) := by
  by_cases h : zs.length = 9
  · have := (decode_yes a zs cap w hR h).mono (fun e W hd => decA_yes h hd); rwa [← h] at this
  · exact (decode_no a zs.length cap w h).mono (fun e W hd => decA_no h hd)
theorem rdecode_any : Calls Try.prog 16 #[.slice a zs.length cap] w (DecA w zs) := by
  by_cases h : zs.length = 9
  · have := (rdecode_yes a zs cap w hR h).mono (fun e W hd => decA_yes h hd); rwa [← h] at this
  · exact (rdecode_no a zs.length cap w h).mono (fun e W hd => decA_no h hd)
end
theorem column_any (k : Int) (w : World) : Calls Try.prog 18 #[.int .i64 k] w fun e W => e = .returned (.tuple #[.int .u8 (colV k), .int .i64 (colE k)]) ∧ Below w.heap.size w W := by
  by_cases h : 0 ≤ k ∧ k < 72
  · unfold colV colE
    rw [if_pos h, if_pos h]
    have := column_yes k.toNat (by omega) w
    rwa [Int.toNat_of_nonneg h.1] at this
  · unfold colV colE; rw [if_neg h, if_neg h]; exact column_no k (by omega) w
theorem rcolumn_any (k : Int) (w : World) : Calls Try.prog 19 #[.int .i64 k] w fun e W => e = .returned (.tuple #[.int .u8 (colV k), .int .i64 (colE k)]) ∧ Below w.heap.size w W := by
  by_cases h : 0 ≤ k ∧ k < 72
  · unfold colV colE
    rw [if_pos h, if_pos h]
    have := rcolumn_yes k.toNat (by omega) w
    rwa [Int.toNat_of_nonneg h.1] at this
  · unfold colV colE; rw [if_neg h, if_neg h]; exact rcolumn_no k (by omega) w
attribute [irreducible] chkV chkE synV synE colV colE dOut dWord dChips dBit dErr
end Go.Proofs.Ytdafapionedooaa.G.H
