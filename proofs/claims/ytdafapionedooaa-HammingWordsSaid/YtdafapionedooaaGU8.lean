/- Slices of bytes (BitVec 8). -/
import Derived.Test.YtdafapionedooaaGRow
namespace Go.Proofs.Ytdafapionedooaa.G
open Go Go.RowKit Go.Shelf
open Elt
abbrev Y := BitVec 8
instance eltY : Elt Y := { gv := fun x => .int .u8 (x.toNat : Int), z := 0, ty := 5, sl := 22, wide := 1, wide_le := by decide, info := by kernel_rfl, under := Try.underlying22, one := fun _ => rfl, plain := fun _ => rfl }
theorem Row.elY {w : World} {a : Option Addr} {zs : List Y} {cap : Nat} (h : Row w a zs cap) (j : Nat) (hj : j < zs.length) : ∃ b off, a = some ⟨b, off, none⟩ ∧ w.cell? ⟨b, off + j, none⟩ = some (.int .u8 ((G.el zs j).toNat : Int)) := h.el j hj
theorem Row.cellY {w : World} {b off : Nat} {zs : List Y} {cap : Nat} (h : Row w (some ⟨b, off, none⟩) zs cap) (j : Nat) (hj : j < zs.length) : w.cell? ⟨b, off + j, none⟩ = some (.int .u8 ((G.el zs j).toNat : Int)) := by
  obtain ⟨b', off', e, hc⟩ := h.el j hj
  cases e
  exact hc
theorem Own.setY {W : World} {B n : Nat} {g cap : Nat} {zs : List Y} (h : Own W B (.slice (some ⟨g, 0, none⟩) n cap) zs) (j : Nat) (c : Y) : Own (W.setCell ⟨g, j, none⟩ (.int .u8 (c.toNat : Int))) B (.slice (some ⟨g, 0, none⟩) n cap) (zs.set j c) := h.set j c
theorem Own.cellY {W : World} {B g cap n : Nat} {zs : List Y} (h : Own W B (.slice (some ⟨g, 0, none⟩) n cap) zs) (k : Nat) (hk : k < zs.length) : W.cell? ⟨g, k, none⟩ = some (.int .u8 ((el zs k).toNat : Int)) := (h.at k hk).2.2.2.2.1

theorem u8_wrap (a : Nat) (h : a < 256) : IntKind.u8.wrap (a : Int) = (a : Int) := by
  simp [IntKind.wrap, IntKind.bits, IntKind.signed]; omega
theorem Y.lt (v : Y) : v.toNat < 256 := v.isLt
theorem and_Y (a b : Y) : bits BinOp.and IntKind.u8 (a.toNat : Int) (b.toNat : Int) = ((a &&& b).toNat : Int) := by
  show IntKind.u8.wrap ((BitVec.ofInt 8 a.toNat &&& BitVec.ofInt 8 b.toNat).toNat : Int) = _
  rw [BitVec.ofInt_natCast, BitVec.ofInt_natCast, BitVec.ofNat_toNat, BitVec.ofNat_toNat, BitVec.setWidth_eq, BitVec.setWidth_eq]
  exact u8_wrap _ (a &&& b).isLt
theorem or_Y (a b : Y) : bits BinOp.or IntKind.u8 (a.toNat : Int) (b.toNat : Int) = ((a ||| b).toNat : Int) := by
  show IntKind.u8.wrap ((BitVec.ofInt 8 a.toNat ||| BitVec.ofInt 8 b.toNat).toNat : Int) = _
  rw [BitVec.ofInt_natCast, BitVec.ofInt_natCast, BitVec.ofNat_toNat, BitVec.ofNat_toNat, BitVec.setWidth_eq, BitVec.setWidth_eq]
  exact u8_wrap _ (a ||| b).isLt
theorem xor_Y (a b : Y) : bits BinOp.xor IntKind.u8 (a.toNat : Int) (b.toNat : Int) = ((a ^^^ b).toNat : Int) := by
  show IntKind.u8.wrap ((BitVec.ofInt 8 a.toNat ^^^ BitVec.ofInt 8 b.toNat).toNat : Int) = _
  rw [BitVec.ofInt_natCast, BitVec.ofInt_natCast, BitVec.ofNat_toNat, BitVec.ofNat_toNat, BitVec.setWidth_eq, BitVec.setWidth_eq]
  exact u8_wrap _ (a ^^^ b).isLt
theorem ofNat_Y (n : Nat) (h : n < 256) : ((BitVec.ofNat 8 n).toNat : Int) = (n : Int) := by
  rw [BitVec.toNat_ofNat, Nat.mod_eq_of_lt h]
theorem shr_Y (a : Y) (k : Nat) : (a.toNat : Int) / 2 ^ min k 64 = ((a >>> k).toNat : Int) := by
  rw [BitVec.toNat_ushiftRight, Nat.shiftRight_eq_div_pow]
  have e : ((a.toNat / 2 ^ min k 64 : Nat) : Int) = (a.toNat : Int) / 2 ^ min k 64 := by rw [Int.natCast_ediv, Int.natCast_pow]; rfl
  rw [← e]
  by_cases h : k ≤ 64
  · rw [Nat.min_eq_left h]
  · rw [Nat.min_eq_right (by omega), Nat.div_eq_of_lt (Nat.lt_trans a.isLt (by decide)), Nat.div_eq_of_lt]
    exact Nat.lt_trans a.isLt (Nat.lt_of_lt_of_le (show 2 ^ 8 < 2 ^ 64 by decide) (Nat.pow_le_pow_right (n := 2) (by decide) (show 64 ≤ k by omega)))
/-- One or zero. -/
def y1 (b : Bool) : Y := if b then 1 else 0
theorem y1_inj {a b : Bool} (h : y1 a = y1 b) : a = b := by
  cases a <;> cases b <;> first | rfl | (revert h; decide)
theorem bit_Y' (a : Y) (k : Nat) : (a >>> k) &&& 1 = y1 (a.getLsbD k) := by
  apply BitVec.eq_of_getLsbD_eq
  intro i hi
  rw [BitVec.getLsbD_and, BitVec.getLsbD_ushiftRight]
  unfold y1
  by_cases h : i = 0
  · subst h
    rw [Nat.add_zero]
    cases a.getLsbD k <;> rfl
  · have h1 : BitVec.getLsbD (1 : Y) i = false := by
      show BitVec.getLsbD (1#8) i = false
      rw [BitVec.getLsbD_one]; simp; omega
    rw [h1, Bool.and_false]
    split
    · exact h1.symm
    · exact BitVec.getLsbD_zero.symm
theorem bit_Y (a : Y) (k : Nat) : bits BinOp.and IntKind.u8 ((a.toNat : Int) / 2 ^ min k 64) 1 = ((y1 (a.getLsbD k)).toNat : Int) := by
  rw [shr_Y]
  have := and_Y (a >>> k) 1
  rw [show ((1 : Y).toNat : Int) = 1 from rfl] at this
  rw [this, bit_Y']
/-- Bytes that are equal as numbers are equal. -/
theorem Y.ext {a b : Y} (h : (a.toNat : Int) = (b.toNat : Int)) : a = b := BitVec.eq_of_toNat_eq (by omega)
end Go.Proofs.Ytdafapionedooaa.G
