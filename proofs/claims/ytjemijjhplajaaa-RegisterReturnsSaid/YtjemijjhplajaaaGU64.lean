/- Slices of uint64s (BitVec 64). -/
import Derived.Test.YtjemijjhplajaaaGRow
namespace Go.Proofs.Ytjemijjhplajaaa.G
open Go Go.RowKit Go.Shelf
open Elt
abbrev V := BitVec 64
instance eltV : Elt V := { gv := fun x => .int .u64 (x.toNat : Int), z := 0, ty := 40, sl := 29, wide := 8, wide_le := by decide, info := by kernel_rfl, under := Try.underlying29, one := fun _ => rfl, plain := fun _ => rfl }
theorem Row.elV {w : World} {a : Option Addr} {zs : List V} {cap : Nat} (h : Row w a zs cap) (j : Nat) (hj : j < zs.length) : ∃ b off, a = some ⟨b, off, none⟩ ∧ w.cell? ⟨b, off + j, none⟩ = some (.int .u64 ((G.el zs j).toNat : Int)) := h.el j hj
theorem Row.cellV {w : World} {b off : Nat} {zs : List V} {cap : Nat} (h : Row w (some ⟨b, off, none⟩) zs cap) (j : Nat) (hj : j < zs.length) : w.cell? ⟨b, off + j, none⟩ = some (.int .u64 ((G.el zs j).toNat : Int)) := by
  obtain ⟨b', off', e, hc⟩ := h.el j hj
  cases e
  exact hc
theorem Own.setV {W : World} {B n : Nat} {g cap : Nat} {zs : List V} (h : Own W B (.slice (some ⟨g, 0, none⟩) n cap) zs) (j : Nat) (c : V) : Own (W.setCell ⟨g, j, none⟩ (.int .u64 (c.toNat : Int))) B (.slice (some ⟨g, 0, none⟩) n cap) (zs.set j c) := h.set j c
theorem Own.cellV {W : World} {B g cap n : Nat} {zs : List V} (h : Own W B (.slice (some ⟨g, 0, none⟩) n cap) zs) (k : Nat) (hk : k < zs.length) : W.cell? ⟨g, k, none⟩ = some (.int .u64 ((el zs k).toNat : Int)) := (h.at k hk).2.2.2.2.1
theorem Own.far {α : Type} [Elt α] {W W' : World} {B dp n c : Nat} {a : Option Addr} {zs : List α} (h : Own W B (.slice a n c) zs) (hg : W.grownBy W' (some dp)) (hdp : dp < B) : Own W' B (.slice a n c) zs := h.grown hg (.inr (fun e => by
  have := (World.ownsRow.lt h _ e).1
  omega))
theorem u64_wrap (a : Nat) (h : a < 18446744073709551616) : IntKind.u64.wrap (a : Int) = (a : Int) := by
  simp [IntKind.wrap, IntKind.bits, IntKind.signed]; omega
theorem and_u64 (a b : Nat) (ha : a < 18446744073709551616) (hb : b < 18446744073709551616) : bits BinOp.and IntKind.u64 (a : Int) (b : Int) = ((a &&& b : Nat) : Int) := by
  show IntKind.u64.wrap ((BitVec.ofInt 64 a &&& BitVec.ofInt 64 b).toNat : Int) = _
  rw [BitVec.toNat_and, BitVec.ofInt_natCast, BitVec.ofInt_natCast, BitVec.toNat_ofNat, BitVec.toNat_ofNat, Nat.mod_eq_of_lt ha, Nat.mod_eq_of_lt hb]
  exact u64_wrap _ (Nat.lt_of_le_of_lt Nat.and_le_left ha)
theorem V.lt (v : V) : v.toNat < 18446744073709551616 := v.isLt
theorem and_V (a b : V) : bits BinOp.and IntKind.u64 (a.toNat : Int) (b.toNat : Int) = ((a &&& b).toNat : Int) := by
  rw [and_u64 _ _ a.lt b.lt, BitVec.toNat_and]
theorem or_V (a b : V) : bits BinOp.or IntKind.u64 (a.toNat : Int) (b.toNat : Int) = ((a ||| b).toNat : Int) := by
  show IntKind.u64.wrap ((BitVec.ofInt 64 a.toNat ||| BitVec.ofInt 64 b.toNat).toNat : Int) = _
  rw [BitVec.ofInt_natCast, BitVec.ofInt_natCast, BitVec.ofNat_toNat, BitVec.ofNat_toNat, BitVec.setWidth_eq, BitVec.setWidth_eq]
  exact u64_wrap _ (a ||| b).lt
theorem xor_V (a b : V) : bits BinOp.xor IntKind.u64 (a.toNat : Int) (b.toNat : Int) = ((a ^^^ b).toNat : Int) := by
  show IntKind.u64.wrap ((BitVec.ofInt 64 a.toNat ^^^ BitVec.ofInt 64 b.toNat).toNat : Int) = _
  rw [BitVec.ofInt_natCast, BitVec.ofInt_natCast, BitVec.ofNat_toNat, BitVec.ofNat_toNat, BitVec.setWidth_eq, BitVec.setWidth_eq]
  exact u64_wrap _ (a ^^^ b).lt
theorem shr_V (a : V) (k : Nat) : (a.toNat : Int) / 2 ^ min k 64 = ((a >>> k).toNat : Int) := by
  rw [BitVec.toNat_ushiftRight, Nat.shiftRight_eq_div_pow]
  have e : ((a.toNat / 2 ^ min k 64 : Nat) : Int) = (a.toNat : Int) / 2 ^ min k 64 := by rw [Int.natCast_ediv, Int.natCast_pow]; rfl
  rw [← e]
  by_cases h : k ≤ 64
  · rw [Nat.min_eq_left h]
  · rw [Nat.min_eq_right (by omega), Nat.div_eq_of_lt a.lt, Nat.div_eq_of_lt]
    exact Nat.lt_of_lt_of_le a.lt (Nat.pow_le_pow_right (n := 2) (by decide) (show 64 ≤ k by omega))
theorem shl_V (a : V) (k : Nat) : IntKind.u64.wrap ((a.toNat : Int) * 2 ^ k) = ((a <<< k).toNat : Int) := by
  rw [BitVec.toNat_shiftLeft, Nat.shiftLeft_eq]
  have e : (a.toNat : Int) * 2 ^ k = ((a.toNat * 2 ^ k : Nat) : Int) := by rw [Int.natCast_mul, Int.natCast_pow]; rfl
  rw [e]
  simp [IntKind.wrap, IntKind.bits, IntKind.signed]
theorem shl_one (k : Nat) : IntKind.u64.wrap (2 ^ k) = ((1#64 <<< k).toNat : Int) := by
  have := shl_V 1#64 k
  rw [← this]
  congr 1
  rw [show ((1#64).toNat : Int) = 1 from rfl, Int.one_mul]
theorem ret_bool' {a b : Bool} (h : a = b) : Ending.returned (.bool a) = .returned (.bool b) := by rw [h]
theorem V.ext {a b : V} (h : (a.toNat : Int) = (b.toNat : Int)) : a = b := BitVec.eq_of_toNat_eq (by omega)
end Go.Proofs.Ytjemijjhplajaaa.G
