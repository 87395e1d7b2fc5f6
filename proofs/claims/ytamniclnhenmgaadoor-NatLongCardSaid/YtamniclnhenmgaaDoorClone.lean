/- slices.Clone and nat.scale. -/
import Derived.Test.YtamniclnhenmgaaDoorOwn
import Derived.Test.YtamniclnhenmgaaDoorBits
namespace Go.Proofs.YtamniclnhenmgaaDoor
open Go Go.RowKit Go.Shelf
attribute [local go_sem] mask24

def SclRel (w : World) (B : Nat) (a : Option Addr) (cap : Nat) (zs : List Int) (f c0 : Nat) (c i : Value) (wr : World) : Prop :=
  ∃ (k : Nat) (ys : List Int) (q : Int), i = .int .i64 (k : Int) ∧ c = .int .i64 q ∧ k ≤ zs.length ∧ ys.length = zs.length ∧ M.Lim ys ∧ 0 ≤ q ∧ q < 16777216 ∧ ys.drop k = zs.drop k ∧
    M.val (ys.take k) + 16777216 ^ k * q = M.val (zs.take k) * f + c0 ∧ Own wr B (.slice a zs.length cap) ys ∧ Below B w wr

/-- What scale leaves: the limbs of the number times f and c0, in memory of the call's own from B on. -/
def SclPost (w : World) (B : Nat) (zs : List Int) (f c0 : Nat) (e : Ending) (W : World) : Prop :=
  ∃ a' cap' ys, e = .returned (.slice a' ys.length cap') ∧ Own W B (.slice a' ys.length cap') ys ∧ Below B w W ∧ M.Lim ys ∧ ys.length ≤ zs.length + 1 ∧ M.val ys = M.val zs * f + c0

set_option maxRecDepth 100000 in
set_option maxHeartbeats 1000000 in
/-- **nat.scale** -/
theorem scale_any (B : Nat) (a : Option Addr) (cap : Nat) (zs : List Int) (f c0 : Nat) (w : World) (hB : B ≤ w.heap.size) (hf : f < 16777216) (hc0 : c0 < 16777216) (hlim : M.Lim zs) (hlen : zs.length < 100000) (hown : Own w B (.slice a zs.length cap) zs) :
    Calls Tryd.prog 76 #[.slice a zs.length cap, .int .i64 (f : Int), .int .i64 (c0 : Int)] w (SclPost w B zs f c0) := by
  have HL := Lib.hid hlim
  have hm := hown.rowAt.room
  have hm2 := hown.rowAt.most
  have HO0 := Lib.hid hown
  clear hlim hown
  go_enter Tryd.func76, Tryd.ntmps76
  go_wp2
  go_loopw [7, 13] (fun c i wr => SclRel w B a cap zs f c0 c i wr) (fun _ i _ => zs.length - (intOf i).toNat)
  case atStart => exact ⟨0, zs, c0, rfl, rfl, Nat.zero_le _, rfl, HL.out, by omega, by omega, rfl, by simp [M.val], HO0.out, Below.refl _ _⟩
  case round =>
    obtain ⟨k, ys, q, rfl, rfl, hk, hlen2, hlim, hq0, hq1, hdrop, hval, hown, hbW⟩ := hrel
    have HLN := Lib.hid hlen2
    have HD := Lib.hid hdrop
    have HV := Lib.hid hval
    have HLIM := Lib.hid hlim
    have HO := Lib.hid hown
    have HB := Lib.hid hbW
    clear hlen2 hdrop hval hlim hown hbW
    have hbs := HB.out.size
    by_cases hlt : k < zs.length
    · obtain ⟨g, rfl, hgB, hgW, h3, h4, hcz, hfz⟩ := HO.out.at2 k (by rw [HLN.out]; exact hlt)
      have hel := HL.out.get k
      have hez : M.el ys k = M.el zs k := by
        have := congrArg (fun l => M.el l 0) HD.out
        simpa only [M.el_drop, Nat.add_zero] using this
      rw [hez] at hcz
      have HEZ := Lib.hid hez
      clear hez
      have hmb := M.mul_bound hel (b := (f : Int)) (by omega)
      go_wp2
      go_roundw
      case rel =>
        have hkl : k < ys.length := by rw [HLN.out]; exact hlt
        refine ⟨k + 1, ys.set k ((q + M.el zs k * (f : Int)) % 16777216), (q + M.el zs k * (f : Int)) / 16777216, by go_num, rfl, by omega, by rw [List.length_set]; exact HLN.out, HLIM.out.set _ (by omega) (by omega), by omega, by omega, ?_, ?_, ?_, HB.out.setCell (p := ⟨g, k, none⟩) hgB _⟩
        · rw [List.drop_set_of_lt (by omega)]
          have := congrArg (List.drop 1) HD.out
          rwa [List.drop_drop, List.drop_drop] at this
        · rw [M.val_set_succ _ _ _ hkl, M.val_take_succ', Int.pow_succ]
          have h1 := M.pow_split (16777216 ^ k) (q + M.el zs k * (f : Int))
          have h2 := HV.out
          rw [Int.mul_add, ← Int.mul_assoc] at h1
          rw [Int.add_mul]
          omega
        · have := HO.out
          rw [← HLN.out] at this ⊢
          exact this.set k _
      case measure => simp [intOf]; omega
    · have hk' : k = zs.length := by omega
      have hv := HV.out
      rw [List.take_of_length_le (by rw [HLN.out]; omega), List.take_of_length_le (by omega), hk'] at hv
      have HV2 := Lib.hid hv
      have HK := Lib.hid hk'
      clear hv hk'
      by_cases hq : 0 < q
      · go_wp2_with (at_builtin; refine wpList_app1 rfl _ _ rfl rfl (HO.out.alloc _) rfl (cell_new _ _ _) (by rw [HLN.out]; omega) (by simp; omega) ?_; intro a' cap' W' hown' hb')
        go_ret
        refine ⟨a', cap', ys ++ [q], by rw [List.length_append, HLN.out]; rfl, hown', HB.out.trans (((Below.refl B wr).alloc (by omega) _).trans hb'), HLIM.out.append (M.Lim.cons hq0 hq1 M.Lim.nil), by simp [HLN.out], ?_⟩
        rw [M.val_append, HLN.out]
        simpa [M.val] using HV2.out
      · have hq2 : q = 0 := by omega
        have hv := HV2.out
        rw [hq2] at hv
        have HV3 := Lib.hid hv
        clear hv hq2
        go_wp2
        go_ret
        exact ⟨a, cap, ys, by rw [HLN.out]; rfl, by rw [HLN.out]; exact HO.out, HB.out, HLIM.out, by rw [HLN.out]; omega, by simpa using HV3.out⟩
end Go.Proofs.YtamniclnhenmgaaDoor
