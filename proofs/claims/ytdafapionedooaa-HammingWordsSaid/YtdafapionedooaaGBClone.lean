/- bytes.Clone. -/
import Derived.Test.YtdafapionedooaaGU8
namespace Go.Proofs.Ytdafapionedooaa.G
open Go Go.RowKit Go.Shelf
open Elt

set_option maxRecDepth 100000 in
set_option maxHeartbeats 1000000 in
/-- **bytes.Clone** of any slice of bytes. -/
theorem bclone_any (a : Option Addr) (zs : List Y) (cap : Nat) (w : World) (hR : Row w a zs cap) (hl : zs.length < 100000) :
    Calls Try.prog 24 #[.slice a zs.length cap] w fun e W' => ∃ a' cap', e = .returned (.slice a' zs.length cap') ∧ Own W' w.heap.size (.slice a' zs.length cap') zs ∧ Below w.heap.size w W' := by
  have HR := Lib.hid (hR.alloc (.cells #[] 5))
  have HO := Lib.hid (own_empty (α := Y) w w.heap.size (Nat.le_refl _))
  have q22 : ∀ (w : World) (a : Option Addr) (n c n' c' : Nat), (binOp .eql 22 (.slice a n c) (.slice none n' c')).run Try.prog w = .ok (.bool a.isNone) w := fun w a n c n' c' => Lib.run_eql_slice_nil w _ _ a n c n' c' Try.underlying22
  cases a with
  | none =>
    have hy : zs = [] := by
      cases zs with
      | nil => rfl
      | cons y ys =>
        obtain ⟨b, off, e, _⟩ := hR.el 0 (by simp)
        cases e
    subst hy
    clear hR
    go_enter Try.func24, Try.ntmps24
    go_wp2_with fail
    go_ret
    exact ⟨none, 0, rfl, Own.nil _ _, Below.refl _ _⟩
  | some ad =>
    clear hR
    go_enter Try.func24, Try.ntmps24
    go_wp2_with (at_builtin; refine wpList_appAny (α := Y) rfl _ _ rfl rfl HO.out rfl HR.out (by simp; omega) (by simp) ?_; intro a' cap' W' hown' hb')
    go_ret
    exact ⟨a', cap', by simp, by simpa using hown', ((Below.refl _ w).alloc (Nat.le_refl _) _).trans hb'⟩
end Go.Proofs.Ytdafapionedooaa.G
