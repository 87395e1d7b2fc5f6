/- ref05.Same, SameList of equal lists. -/
import Derived.Test.YtgaanojfjaifhaaBAwake
namespace Go.Proofs.Ytgaanojfjaifhaa.B
open Go Go.RowKit Go.Shelf

/-- w' is w but for drawn answers. -/
def Dr (w w' : World) : Prop := ∃ m, w' = w.drewN m
theorem Dr.refl (w : World) : Dr w w := ⟨0, rfl⟩
theorem Dr.drewN {w w1 : World} (h : Dr w w1) (n : Nat) : Dr w (w1.drewN n) := by
  obtain ⟨m, rfl⟩ := h; exact ⟨m + n, by rw [World.drewN_drewN]⟩
theorem Dr.below {w W : World} (h : Dr w W) : Below w.heap.size w W := by obtain ⟨m, rfl⟩ := h; exact belowN (Below.refl _ _) m

set_option maxRecDepth 100000 in
set_option maxHeartbeats 1000000 in
theorem sameList_yes (a b : Option Addr) (ca cb : Nat) (p q : List V) (w : World) (ha : Row w a p ca) (hb : Row w b q cb) (hpq : p = q) :
    Calls Try.prog 33 #[.slice a p.length ca, .slice b q.length cb] w fun e W => e = .returned (.bool true) ∧ Below w.heap.size w W := by
  subst hpq
  have hra := ha.room
  have hma := ha.most
  have hrb := hb.room
  have hmb := hb.most
  have HA := Lib.hid ha
  have HB := Lib.hid hb
  clear ha hb
  have hz : ((p.length : Int) != (p.length : Int)) = false := by simp
  go_enter Try.func33, Try.ntmps33
  go_wp2_with fail
  go_loopw [5] (fun i wr => ∃ k : Nat, i = .int .i64 (k : Int) ∧ k ≤ p.length ∧ Dr w wr) (fun i _ => p.length - (intOf i).toNat)
  case atStart => exact ⟨0, rfl, Nat.zero_le _, Dr.refl _⟩
  case round =>
    obtain ⟨k, rfl, hk, hd⟩ := hrel
    have HD := Lib.hid hd
    by_cases hlt : k < p.length
    · obtain ⟨ab, ao, rfl, c1⟩ := (HA.out.below hd.below).elV k hlt
      obtain ⟨bb, bo, rfl, c2⟩ := (HB.out.below hd.below).elV k hlt
      clear hd
      go_wp2_with fail
      go_quiet (fail)
      go_wp2_with fail
      go_roundw
      case rel => exact ⟨k + 1, by go_num, hlt, HD.out.drewN _⟩
      case measure => simp [intOf]; omega
    · clear hd
      go_wp2_with fail
      go_ret
      exact ⟨rfl, HD.out.below⟩
set_option maxRecDepth 100000 in
set_option maxHeartbeats 1000000 in
theorem same_yes (C D : Int) (a b : Option Addr) (ca cb : Nat) (p q : List V) (w : World) (ha : Row w a p ca) (hb : Row w b q cb) (hCD : C = D) (hpq : p = q) :
    Calls Try.prog 9 #[.agg #[.int .i64 C, .slice a p.length ca], .agg #[.int .i64 D, .slice b q.length cb]] w fun e W => e = .returned (.bool true) ∧ Below w.heap.size w W := by
  subst hCD
  have h1 := MBox.new w C a p.length ca 24
  have h2 := MBox.new (w.alloc (.cells #[.int .i64 C, .slice a p.length ca] 24)) C b q.length cb 24
  have k1 := h1.alloc (.cells #[.int .i64 C, .slice b q.length cb] 24)
  have hB : Below w.heap.size w ((w.alloc (.cells #[.int .i64 C, .slice a p.length ca] 24)).alloc (.cells #[.int .i64 C, .slice b q.length cb] 24)) := ((Below.refl _ w).alloc (Nat.le_refl _) _).alloc (by simp) _
  have hra := (ha.alloc (.cells #[.int .i64 C, .slice a p.length ca] 24)).alloc (.cells #[.int .i64 C, .slice b q.length cb] 24)
  have hrb := (hb.alloc (.cells #[.int .i64 C, .slice a p.length ca] 24)).alloc (.cells #[.int .i64 C, .slice b q.length cb] 24)
  simp only [World.size_alloc] at h2
  obtain ⟨w2, hw2⟩ : ∃ w2, ((w.alloc (.cells #[.int .i64 C, .slice a p.length ca] 24)).alloc (.cells #[.int .i64 C, .slice b q.length cb] 24)) = w2 := ⟨_, rfl⟩
  rw [hw2] at h2 k1 hB hra hrb
  have HS := Lib.hid (sameList_yes a b ca cb p q w2 hra hrb hpq)
  have a0 := k1.c0
  have a1 := k1.c1
  have b0 := h2.c0
  have b1 := h2.c1
  have HB := Lib.hid hB
  clear h1 h2 k1 hB hra hrb ha hb hpq
  go_enter Try.func9, Try.ntmps9
  go_wp2_with fail
  refine HS.out.mono ?_
  rintro e w3 ⟨rfl, hb3⟩
  have HB3 := Lib.hid (HB.out.trans (hb3.mono HB.out.size))
  clear hb3
  go_wp2_with fail
  go_ret
  exact ⟨rfl, HB3.out⟩
end Go.Proofs.Ytgaanojfjaifhaa.B
