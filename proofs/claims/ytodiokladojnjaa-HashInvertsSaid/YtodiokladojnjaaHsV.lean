/- hash.Value and ref10.Value: the value of an address. -/
import Derived.Test.YtodiokladojnjaaBMat
import Derived.Test.YtodiokladojnjaaBRef1
import Derived.Test.YtodiokladojnjaaHsK
namespace Go.Proofs.Ytodiokladojnjaa.B
open Go Go.RowKit Go.Shelf

/-- The number whose bit k is the parity of what the address and mask k have in common. -/
def valV (R : List V) (v : V) : V := BM.ofB (min R.length 64) (fun k => BM.dot (el R k) v)
theorem valV_bt (R : List V) (v : V) (k : Nat) : BM.bt (valV R v) k = (decide (k < min R.length 64) && BM.dot (el R k) v) := by
  by_cases h : k < 64
  · exact BM.bt_ofB _ _ _ h
  · rw [BM.bt_ge _ (by omega), decide_eq_false (by omega), Bool.false_and]
theorem dot_zero_r (a : V) : BM.dot a 0 = false := BM.xs_false (fun i _ => by rw [BM.bt_zero, Bool.and_false])
theorem valV_xor (R : List V) (a b : V) : valV R (a ^^^ b) = valV R a ^^^ valV R b := BM.bt_ext (fun k _ => by
  rw [BM.bt_xor, valV_bt, valV_bt, valV_bt, BM.dot_xor_r]
  cases decide (k < min R.length 64) <;> simp)
theorem valV_zero (R : List V) : valV R 0 = 0 := BM.bt_ext (fun k _ => by
  rw [valV_bt, dot_zero_r, Bool.and_false, BM.bt_zero])
theorem valV_fit (R : List V) (v : V) : fitB (valV R v) R.length = true := (fitB_iff _ _).2 (fun k hk => by
  rw [valV_bt, decide_eq_false (by omega), Bool.false_and])
theorem valV_app {R : List V} (h : R.length ≤ 64) (v : V) : valV R v = BM.app (el R) R.length v := by
  unfold valV BM.app; rw [Nat.min_eq_left h]
theorem ofB_congr {n : Nat} {f g : Nat → Bool} (h : ∀ i, i < n → f i = g i) : BM.ofB n f = BM.ofB n g := BM.bt_ext (fun k hk => by
  rw [BM.bt_ofB _ _ _ hk, BM.bt_ofB _ _ _ hk]
  by_cases e : k < n
  · rw [h k e]
  · rw [decide_eq_false e, Bool.false_and, Bool.false_and])
theorem apply_val (R : List V) (v : V) : applyV 64 (R.take (min R.length 64)) v = valV R v := by
  have hlen : (R.take (min R.length 64)).length = min R.length 64 := by rw [List.length_take]; omega
  by_cases h0 : min R.length 64 = 0
  · have e : validB 64 (R.take (min R.length 64)) = false := by
      unfold validB; rw [hlen, h0]; rfl
    unfold applyV valV; rw [e, h0]; rfl
  · have hM : MV 64 (R.take (min R.length 64)) := ⟨by omega, by omega, by rw [hlen]; omega, by rw [hlen]; omega, fun j _ => (fitB_iff _ _).2 (fun k hk => BM.bt_ge _ hk)⟩
    have hf : fitB v 64 = true := (fitB_iff _ _).2 (fun k hk => BM.bt_ge _ hk)
    have e := hM.yes
    unfold applyV
    rw [show (64 : Int) = ((64 : Nat) : Int) from rfl, e, Int.toNat_natCast, hf, hlen]
    show BM.app (el (R.take (min R.length 64))) (min R.length 64) v = _
    unfold valV BM.app
    exact ofB_congr (fun k hk => by rw [el_take, if_pos hk])

set_option maxRecDepth 100000 in
theorem value_any (a : Option Addr) (cap : Nat) (R : List V) (v : V) (w : World) (hR : Row w a R cap) :
    Calls Try.prog 15 #[.slice a R.length cap, .int .u64 (v.toNat : Int)] w fun e W => e = .returned (.int .u64 ((valV R v).toNat : Int)) ∧ Below w.heap.size w W := by
  have hroom := hR.room
  have hmost := hR.most
  have hlen : (R.take (min R.length 64)).length = min R.length 64 := by rw [List.length_take]; omega
  have hap := apply_any 64 a cap (R.take (min R.length 64)) v w (hR.take _)
  rw [hlen, apply_val] at hap
  obtain ⟨m, hm⟩ : ∃ m, min R.length 64 = m := ⟨_, rfl⟩
  rw [hm] at hap
  have HAP := Lib.hid hap
  have hmi : min (R.length : Int) 64 = (m : Int) := by omega
  have hmc : m ≤ cap := by omega
  clear hap hlen hm
  go_enter Try.func15, Try.ntmps15
  go_wp2_with fail
  refine HAP.out.mono ?_
  rintro e w2 ⟨rfl, hb2⟩
  go_wp2_with fail
  go_ret
  exact ⟨rfl, hb2⟩

set_option maxRecDepth 100000 in
theorem rvalue_any (a : Option Addr) (cap : Nat) (R : List V) (v : V) (w : World) (hR : Row w a R cap) :
    Calls Try.prog 16 #[.slice a R.length cap, .int .u64 (v.toNat : Int)] w fun e W => e = .returned (.int .u64 ((valV R v).toNat : Int)) ∧ W = w := by
  have hroom := hR.room
  have hmost := hR.most
  have HR := Lib.hid hR
  clear hR
  go_enter Try.func16, Try.ntmps16
  go_wp2_with fail
  go_loopw [5, 6] (fun x i wr => ∃ k : Nat, i = .int .i64 (k : Int) ∧ k ≤ min R.length 64 ∧ x = .int .u64 ((BM.ofB k (fun i => BM.dot (el R i) v)).toNat : Int) ∧ wr = w) (fun _ i _ => R.length - (intOf i).toNat)
  case atStart => exact ⟨0, rfl, Nat.zero_le _, rfl, rfl⟩
  case round =>
    obtain ⟨k, rfl, hk, rfl, rfl⟩ := hrel
    by_cases hlt : k < R.length
    · by_cases h64 : k < 64
      · obtain ⟨b, off, rfl, hcell⟩ := HR.out.elV k hlt
        have hand := and_V (el R k) v
        obtain ⟨y, hy⟩ : ∃ y, el R k &&& v = y := ⟨_, rfl⟩
        rw [hy] at hand
        have HP := Lib.hid (rparity_any y wr)
        have HY := Lib.hid hy
        clear hy
        go_wp2_with fail
        refine HP.out.mono ?_
        rintro e w4 ⟨rfl, hw⟩
        obtain rfl := hw.symm
        go_wp2_with fail
        go_roundw
        case rel =>
          refine ⟨k + 1, by go_num, by omega, u64_v ?_, by first | rfl | trivial⟩
          rw [shl_V, or_V, ← HY.out, par_dot, b1_shl]
          rfl
        case measure => simp [intOf]; omega
      · have hkm : k = min R.length 64 := by omega
        have HK := Lib.hid hkm
        clear hkm
        go_wp2_with fail
        go_ret
        exact ⟨by rw [HK.out]; rfl, rfl⟩
    · have hkm : k = min R.length 64 := by omega
      have HK := Lib.hid hkm
      clear hkm
      go_wp2_with fail
      go_ret
      exact ⟨by rw [HK.out]; rfl, rfl⟩
end Go.Proofs.Ytodiokladojnjaa.B
