/- ref11.Decode. -/
import Derived.Test.YtememimblalkfaaRgDec
import Derived.Test.YtememimblalkfaaPRef1
namespace Go.Proofs.Ytememimblalkfaa.RG
open Go Go.RowKit Go.Shelf
open G P
theorem lo_and (L : List V) : bits BinOp.and IntKind.u64 ((el L 1).toNat : Int) 4294967295 = (decLo L : Int) := by
  have := fld_and (el L 1) 0 32 (by decide) (by decide)
  rw [show (2 : Int) ^ 0 = 1 from rfl, Int.ediv_one] at this
  exact this
theorem hi_shr (L : List V) : ((el L 1).toNat : Int) / 4294967296 = (decHi L : Int) := by
  unfold decHi fld
  have := V.lt (el L 1)
  simp only [Nat.reducePow]
  omega
theorem lo_wrap (L : List V) : IntKind.i64.wrap (decLo L : Int) = (decLo L : Int) := by
  have := fld_lt (el L 1) 0 32
  have e : decLo L = fld (el L 1) 0 32 := rfl
  rw [e, IntKind.wrap_i64]
  omega
theorem hi_wrap (L : List V) : IntKind.i64.wrap (decHi L : Int) = (decHi L : Int) := by
  have := fld_lt (el L 1) 32 32
  have e : decHi L = fld (el L 1) 32 32 := rfl
  rw [e, IntKind.wrap_i64]
  omega
theorem n_and (L : List V) : bits BinOp.and IntKind.u64 (((el L 0).toNat : Int) / 16777216) 255 = (decN L : Int) := fld_and (el L 0) 24 8 (by decide) (by decide)
theorem n_le (L : List V) : decN L ≤ 255 := by
  have := fld_lt (el L 0) 24 8
  have e : decN L = fld (el L 0) 24 8 := rfl
  rw [e]
  omega
theorem n_wrap (L : List V) : wrap64 (decN L : Int) = (decN L : Int) := by
  have := n_le L
  unfold wrap64; omega
theorem map_new {W : World} {x : Nat → Int} {lo hi y0 y1 y2 y3 y4 y5 : Int} (h6 : Is6 x y0 y1 y2 y3 y4 y5) :
    Value.pointer (some ⟨W.heap.size, 0, none⟩) = .pointer (some ⟨W.heap.size, 0, none⟩) ∧ Mp (W.alloc (.cells #[.int .i64 y0, .int .i64 y1, .int .i64 y2, .int .i64 y3, .int .i64 y4, .int .i64 y5, .slice none 0 0, .int .i64 lo, .int .i64 hi] 31)).drew W.heap.size x (.slice none 0 0) lo hi ∧
      Below W.heap.size W (W.alloc (.cells #[.int .i64 y0, .int .i64 y1, .int .i64 y2, .int .i64 y3, .int .i64 y4, .int .i64 y5, .slice none 0 0, .int .i64 lo, .int .i64 hi] 31)).drew := by
  obtain ⟨rfl, rfl, rfl, rfl, rfl, rfl⟩ := h6
  exact ⟨rfl, (Mp.new W x _ lo hi).drewN 1, belowN ((Below.refl _ W).alloc (Nat.le_refl _) _) 1⟩
/-- What has been read, beside the box of the result. -/
structure RD (w : World) (p : Nat) (L : List V) (g : Nat) (a : Option Addr) (W : World) : Prop where
  box : Mp W g (decX L) (.slice none 0 0) (decLo L : Int) (decHi L : Int)
  zero : Mp W p (fun _ => 0) (.slice none 0 0) 0 0
  bel : Below w.heap.size w W
  lt : p < g
theorem RD.below {w W W' : World} {p g : Nat} {L : List V} {a : Option Addr} (h : RD w p L g a W) (hb : Below W.heap.size W W') : RD w p L g a W' := ⟨h.box.below hb, h.zero.below hb, h.bel.trans (hb.mono h.bel.size), h.lt⟩
end Go.Proofs.Ytememimblalkfaa.RG
