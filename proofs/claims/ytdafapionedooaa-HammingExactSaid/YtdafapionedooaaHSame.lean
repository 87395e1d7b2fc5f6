/- law06.same of equal results; law06.awake. -/
import Derived.Test.YtdafapionedooaaHDec
import Derived.Test.YtdafapionedooaaGStr
namespace Go.Proofs.Ytdafapionedooaa.G.H
open Go Go.RowKit Go.Shelf

set_option maxRecDepth 100000 in
set_option maxHeartbeats 4000000 in
/-- **law06.same** of equal results -/
theorem same_yes (o : Int) (a b : Option Addr) (ca cb : Nat) (zs : List Y) (n : Nat) (a2 b2 : Option Addr) (c2 d2 : Nat) (ks : List Nat) (m : Nat) (w : World) (hn : zs.length = n) (hm : ks.length = m)
    (hA : Row w a zs ca) (hB : Row w b zs cb) (hC : Row w a2 ks c2) (hD : Row w b2 ks d2) (hk : m ≤ 1) :
    Calls Try.prog 17 #[.agg #[.int .i64 o, .slice a n ca, .slice a2 m c2], .agg #[.int .i64 o, .slice b n cb, .slice b2 m d2]] w fun e W => e = .returned (.bool true) ∧ Below w.heap.size w W := by
  have hb1 := Box.new w 34 [.int .i64 o, .slice a n ca, .slice a2 m c2]
  have hw1 : Below w.heap.size w (w.alloc (.cells #[.int .i64 o, .slice a n ca, .slice a2 m c2] 34)) := (Below.refl _ w).alloc (Nat.le_refl _) _
  have hA1 := hA.below hw1
  have hB1 := hB.below hw1
  have hC1 := hC.below hw1
  have hD1 := hD.below hw1
  have hb1' : Box (w.alloc (.cells #[.int .i64 o, .slice a n ca, .slice a2 m c2] 34)) w.heap.size 34 [.int .i64 o, .slice a n ca, .slice a2 m c2] := hb1
  obtain ⟨w1, hn1⟩ : ∃ w1, w.alloc (.cells #[.int .i64 o, .slice a n ca, .slice a2 m c2] 34) = w1 := ⟨_, rfl⟩
  rw [hn1] at hb1' hw1 hA1 hB1 hC1 hD1
  have hb2 := Box.new w1 34 [.int .i64 o, .slice b n cb, .slice b2 m d2]
  have hb2' : Box (w1.alloc (.cells #[.int .i64 o, .slice b n cb, .slice b2 m d2] 34)) w1.heap.size 34 [.int .i64 o, .slice b n cb, .slice b2 m d2] := hb2
  have hp1 := hb1'.lt
  have hb12 := hb1'.alloc (.cells #[.int .i64 o, .slice b n cb, .slice b2 m d2] 34)
  have hw2 := hw1.alloc hw1.size (.cells #[.int .i64 o, .slice b n cb, .slice b2 m d2] 34)
  have hA2 := hA1.alloc (.cells #[.int .i64 o, .slice b n cb, .slice b2 m d2] 34)
  have hB2 := hB1.alloc (.cells #[.int .i64 o, .slice b n cb, .slice b2 m d2] 34)
  have hC2 := hC1.alloc (.cells #[.int .i64 o, .slice b n cb, .slice b2 m d2] 34)
  have hD2 := hD1.alloc (.cells #[.int .i64 o, .slice b n cb, .slice b2 m d2] 34)
  obtain ⟨w2, hn2⟩ : ∃ w2, w1.alloc (.cells #[.int .i64 o, .slice b n cb, .slice b2 m d2] 34) = w2 := ⟨_, rfl⟩
  rw [hn2] at hb2' hb12 hw2 hA2 hB2 hC2 hD2
  obtain ⟨p, hp⟩ : ∃ p, w.heap.size = p := ⟨_, rfl⟩
  obtain ⟨q, hq⟩ : ∃ q, w1.heap.size = q := ⟨_, rfl⟩
  rw [hp] at hb12
  rw [hq] at hb2'
  have s1 := conv_str a zs ca w2 hA2
  have s2 := conv_str b zs cb w2 hB2
  obtain ⟨S, hS⟩ : ∃ S, strY zs = S := ⟨_, rfl⟩
  rw [hS, hn] at s1 s2
  have c10 := hb12.cell 0 rfl
  have c11 := hb12.cell 1 rfl
  have c12 := hb12.cell 2 rfl
  have c20 := hb2'.cell 0 rfl
  have c21 := hb2'.cell 1 rfl
  have c22 := hb2'.cell 2 rfl
  have HW := Lib.hid hw2
  have HC := Lib.hid hC2
  have HD := Lib.hid hD2
  have HM := Lib.hid hm
  have hcr := hC2.room
  have hdr := hD2.room
  have hcm := hC2.most
  have hdm := hD2.most
  rw [hm] at hcr hdr
  clear hb1 hw1 hA1 hB1 hC1 hD1 hb1' hb2 hb2' hb12 hw2 hA2 hB2 hC2 hD2 hS hA hB hC hD hp1 hn hm
  have HNn := Lib.hid (And.intro hn1 hn2)
  go_enter Try.func17, Try.ntmps17
  go_wp2_with fail
  clear s1 s2 hn1 hn2 hp hq
  go_loopw [5] (fun i wr => ∃ k nn : Nat, i = .int .i64 (k : Int) ∧ k ≤ m ∧ wr = w2.drewN nn) (fun i _ => m - (intOf i).toNat)
  case atStart => exact ⟨0, 0, rfl, Nat.zero_le _, rfl⟩
  case round =>
    obtain ⟨k, nn, rfl, hkm, rfl⟩ := hrel
    by_cases hlt : k < m
    · obtain ⟨b3, o3, rfl, h3⟩ := HC.out.elN k (by rw [HM.out]; exact hlt)
      obtain ⟨b4, o4, rfl, h4⟩ := HD.out.elN k (by rw [HM.out]; exact hlt)
      obtain ⟨x, hx⟩ : ∃ x, el ks k = x := ⟨_, rfl⟩
      rw [hx] at h3 h4
      have hne : ((x : Int) != (x : Int)) = false := by simp
      clear hx
      go_wp2_with fail
      go_quiet (fail)
      go_wp2_with fail
      go_roundw
      case rel => exact ⟨k + 1, _, by go_num, hlt, rfl⟩
      case measure => simp [intOf]; omega
    · obtain rfl : k = m := by omega
      go_wp2_with fail
      go_ret
      exact ⟨rfl, belowN HW.out _⟩
end Go.Proofs.Ytdafapionedooaa.G.H
