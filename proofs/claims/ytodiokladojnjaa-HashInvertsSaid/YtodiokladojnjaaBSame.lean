/- ref05.Same, SameList of equal lists. -/
import Derived.Test.YtodiokladojnjaaBAwake
namespace Go.Proofs.Ytodiokladojnjaa.B
open Go Go.RowKit Go.Shelf

/-- w' is w but for drawn answers. -/
def Dr (w w' : World) : Prop := ∃ m, w' = w.drewN m
theorem Dr.refl (w : World) : Dr w w := ⟨0, rfl⟩
theorem Dr.drewN {w w1 : World} (h : Dr w w1) (n : Nat) : Dr w (w1.drewN n) := by
  obtain ⟨m, rfl⟩ := h; exact ⟨m + n, by rw [World.drewN_drewN]⟩
theorem Dr.below {w W : World} (h : Dr w W) : Below w.heap.size w W := by obtain ⟨m, rfl⟩ := h; exact belowN (Below.refl _ _) m

set_option maxRecDepth 100000 in
set_option maxHeartbeats 1000000 in
theorem sameList_yes (a b : Option Addr) (ca cb : Nat) (p q : List V) (w : World) (ha : Row w a p ca) (hb : Row w b q cb) (hpq : p = q) :
    Calls Try.prog 19 #[.slice a p.length ca, .slice b q.length cb] w fun e W => e = .returned (.bool true) ∧ Below w.heap.size w W := by
  subst hpq
  have hra := ha.room
  have hma := ha.most
  have hrb := hb.room
  have hmb := hb.most
  have HA := Lib.hid ha
  have HB := Lib.hid hb
  clear ha hb
  have hz : ((p.length : Int) != (p.length : Int)) = false := by simp
  go_enter Try.func19, Try.ntmps19
  go_wp2_with fail
  go_loopw [5] (fun i wr => ∃ k : Nat, i = .int .i64 (k : Int) ∧ k ≤ p.length ∧ Dr w wr) (fun i _ => p.length - (intOf i).toNat)
  case atStart => exact ⟨0, rfl, Nat.zero_le _, Dr.refl _⟩
  case round =>
    obtain ⟨k, rfl, hk, hd⟩ := hrel
    have HD := Lib.hid hd
    by_cases hlt : k < p.length
    · obtain ⟨ab, ao, rfl, c1⟩ := (HA.out.below hd.below).elV k hlt
      obtain ⟨bb, bo, rfl, c2⟩ := (HB.out.below hd.below).elV k hlt
      clear hd
      go_wp2_with fail
      go_quiet (fail)
      go_wp2_with fail
      go_roundw
      case rel => exact ⟨k + 1, by go_num, hlt, HD.out.drewN _⟩
      case measure => simp [intOf]; omega
    · clear hd
      go_wp2_with fail
      go_ret
      exact ⟨rfl, HD.out.below⟩
end Go.Proofs.Ytodiokladojnjaa.B
