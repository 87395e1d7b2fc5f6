/- nat.Valid. -/
import Derived.Test.YtamniclnhenmgaaDoorWithin
namespace Go.Proofs.YtamniclnhenmgaaDoor
open Go Go.RowKit Go.Shelf

/-- A valid number's limbs. -/
structure Vld (zs : List Int) : Prop where
  len : zs.length ≤ 200
  last : 0 < zs.length → M.el zs (zs.length - 1) ≠ 0
  lim : M.Lim zs

set_option maxHeartbeats 400000 in
theorem valid_yes (a : Option Addr) (zs : List Int) (cap : Nat) (w : World) (hR : Row w a zs cap) (hV : Vld zs) :
    Calls Tryd.prog 42 #[.agg #[.slice a zs.length cap]] w fun e W' => e = .returned (.bool true) ∧ Below w.heap.size w W' := by
  have hroom := hR.room
  have hmost := hR.most
  have hlen := hV.len
  have HR := Lib.hid (hR.alloc (.cells #[.slice a zs.length cap] 24))
  have HV := Lib.hid hV
  clear hR hV
  by_cases h0 : 0 < zs.length
  · obtain ⟨b, off, rfl, hc⟩ := HR.out.el (zs.length - 1) (by omega)
    have hz : (M.el zs (zs.length - 1) == 0) = false := by have := HV.out.last h0; simp [this]
    go_enter Tryd.func42, Tryd.ntmps42
    go_wp2
    go_loop [27] (fun i => ∃ k : Nat, k ≤ zs.length ∧ i = .int .i64 k) (fun i => zs.length - (intOf i).toNat)
    case atStart => exact ⟨0, Nat.zero_le _, rfl⟩
    case round =>
      obtain ⟨k, hk, rfl⟩ := hrel
      have hl := HV.out.lim.get k
      by_cases hlt : k < zs.length
      · have hck := HR.out.cell k hlt
        go_wp2
        go_round
        case rel => exact ⟨k + 1, by omega, by go_num⟩
        case measure => simp [intOf]; omega
      · go_wp2
        go_ret
        exact ⟨rfl, (Below.refl _ w).alloc (Nat.le_refl _) _⟩
  · have h0' : zs.length = 0 := by omega
    have hzs : zs = [] := List.length_eq_zero_iff.1 h0'
    subst hzs
    clear h0 HR HV
    go_enter Tryd.func42, Tryd.ntmps42
    go_wp2
    go_loop [27] (fun i => i = .int .i64 0) (fun _ => 0)
    case atStart => rfl
    case round =>
      obtain rfl := hrel
      go_wp2
      go_ret
      exact ⟨rfl, (Below.refl _ w).alloc (Nat.le_refl _) _⟩
end Go.Proofs.YtamniclnhenmgaaDoor
