/- string(bytes). -/
import Derived.Test.YtdafapionedooaaGU8
import Derived.Lib.SlBytesRow
namespace Go.Proofs.Ytdafapionedooaa.G
open Go Go.RowKit Go.Shelf
open Elt

/-- The string of these bytes. -/
def strY (zs : List Y) : ByteArray := strOfNums (zs.map fun y => (y.toNat : Int))
theorem conv_str (a : Option Addr) (zs : List Y) (cap : Nat) (W : World) (h : Row W a zs cap) :
    Sem.run Try.prog (convert 22 9 (.slice a zs.length cap)) W = .ok (.string (strY zs)) W := by
  cases a with
  | none =>
    have hy : zs = [] := by
      cases zs with
      | nil => rfl
      | cons y ys =>
        obtain ⟨b, off, e, _⟩ := h.el 0 (by simp)
        cases e
    subst hy
    rw [run_convert_bytes_string W _ _ _ _ _ _ Try.underlying22 Try.underlying5 Try.underlying9]
    rfl
  | some ad =>
    cases zs with
    | nil =>
      rw [run_convert_bytes_string W _ _ _ _ _ _ Try.underlying22 Try.underlying5 Try.underlying9]
      rfl
    | cons y ys =>
      obtain ⟨b, off, e, _⟩ := h.el 0 (by simp)
      cases e
      exact run_convert_bytes_arg (P := Try.prog) W _ _ Try.underlying22 Try.underlying5 b off (y :: ys).length cap ((y :: ys).map fun y => (y.toNat : Int)) (by simp) (fun i hi => by
        rw [h.cellY i hi]
        rw [List.getD, List.getElem?_map, List.getElem?_eq_getElem hi, el_lt hi]; rfl) _ Try.underlying9
attribute [irreducible] strY
end Go.Proofs.Ytdafapionedooaa.G
