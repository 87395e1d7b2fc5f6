/- poly.Mul, where a factor is zero, the product is too long, or a factor is no polynomial. -/
import Derived.Test.YtfbogjibofeckaaPMul
namespace Go.Proofs.Ytfbogjibofeckaa.P
open Go Go.RowKit Go.Shelf

set_option maxRecDepth 100000 in
set_option maxHeartbeats 1000000 in
theorem mul_bad1 (a b : Option Addr) (ca cb : Nat) (p q : List PM.G) (w : World) (ha : Row w a p ca) (hb : Row w b q cb) (hp : ¬ Pol p) :
    Calls Try.prog 23 #[.slice a p.length ca, .slice b q.length cb] w fun e W => e = .returned (.tuple #[.slice none 0 0, .int .i64 1]) ∧ Below w.heap.size w W := by
  have hra := ha.room
  have hma := ha.most
  have hrb := hb.room
  have hmb := hb.most
  have HA := Lib.hid ha
  have HB := Lib.hid hb
  have HP := Lib.hid hp
  clear hp
  have hb1 : Below w.heap.size w (w.alloc (.cells #[.slice b q.length cb] 22)) := (Below.refl _ w).alloc (Nat.le_refl _) _
  have c1 := cell_new w (.slice b q.length cb) 22
  have hs1 : (w.alloc (.cells #[.slice b q.length cb] 22)).heap.size = w.heap.size + 1 := by simp
  clear ha hb
  refine (callsIn_wide (n := 6)).1 ?_
  refine callsIn_of_wp_marks Try.func23 rfl trivial ?_ rfl
  refine wpIn_wide.2 ?_
  simp only [Try.ntmps23, List.size_toArray, List.length_cons, List.length_nil, Nat.reduceAdd, Nat.reduceSub, Array.replicate_succ, Array.replicate_zero, List.push_toArray, List.append_toArray, List.nil_append, List.cons_append]
  go_wp2_with fail
  generalize w.alloc (.cells #[.slice b q.length cb] 22) = w1 at *
  have HA1 := Lib.hid (HA.out.below hb1)
  have HB1 := Lib.hid (HB.out.below hb1)
  refine (valid_no a p ca w1 HA1.out HP.out).mono ?_
  rintro e w2 ⟨rfl, hb2⟩
  have hs2 := hb2.size
  go_wp2
  exact ⟨.tuple #[.slice none 0 0, .int .i64 1], by simp [results, Try.f23, go_sem], rfl, hb1.trans (hb2.mono (by omega))⟩
set_option maxRecDepth 100000 in
set_option maxHeartbeats 1000000 in
theorem mul_bad2 (a b : Option Addr) (ca cb : Nat) (p q : List PM.G) (w : World) (ha : Row w a p ca) (hb : Row w b q cb) (hp : Pol p) (hq : ¬ Pol q) :
    Calls Try.prog 23 #[.slice a p.length ca, .slice b q.length cb] w fun e W => e = .returned (.tuple #[.slice none 0 0, .int .i64 1]) ∧ Below w.heap.size w W := by
  have hra := ha.room
  have hma := ha.most
  have hrb := hb.room
  have hmb := hb.most
  have HA := Lib.hid ha
  have HB := Lib.hid hb
  have HP := Lib.hid hp
  have HQ := Lib.hid hq
  clear hp hq
  have hb1 : Below w.heap.size w (w.alloc (.cells #[.slice b q.length cb] 22)) := (Below.refl _ w).alloc (Nat.le_refl _) _
  have c1 := cell_new w (.slice b q.length cb) 22
  have hs1 : (w.alloc (.cells #[.slice b q.length cb] 22)).heap.size = w.heap.size + 1 := by simp
  clear ha hb
  refine (callsIn_wide (n := 6)).1 ?_
  refine callsIn_of_wp_marks Try.func23 rfl trivial ?_ rfl
  refine wpIn_wide.2 ?_
  simp only [Try.ntmps23, List.size_toArray, List.length_cons, List.length_nil, Nat.reduceAdd, Nat.reduceSub, Array.replicate_succ, Array.replicate_zero, List.push_toArray, List.append_toArray, List.nil_append, List.cons_append]
  go_wp2_with fail
  generalize w.alloc (.cells #[.slice b q.length cb] 22) = w1 at *
  have HA1 := Lib.hid (HA.out.below hb1)
  have HB1 := Lib.hid (HB.out.below hb1)
  refine (valid_yes a p ca w1 HA1.out HP.out).mono ?_
  rintro e w2 ⟨rfl, hb2⟩
  have c2 := cell_below hb2 c1
  have HB2 := Lib.hid (HB1.out.below hb2)
  have hs2 := hb2.size
  go_wp2_with fail
  refine (valid_no b q cb w2 HB2.out HQ.out).mono ?_
  rintro e w3 ⟨rfl, hb3⟩
  have c3 := cell_below hb3 c2
  have hs3 := hb3.size
  go_wp2
  exact ⟨.tuple #[.slice none 0 0, .int .i64 1], by simp [results, Try.f23, go_sem], rfl, (hb1.trans (hb2.mono (by omega))).trans (hb3.mono (by omega))⟩
set_option maxRecDepth 100000 in
set_option maxHeartbeats 1000000 in
theorem mul_zero1 (a b : Option Addr) (ca cb : Nat) (p q : List PM.G) (w : World) (ha : Row w a p ca) (hb : Row w b q cb) (hp : Pol p) (hq : Pol q) (h0 : p.length = 0) :
    Calls Try.prog 23 #[.slice a p.length ca, .slice b q.length cb] w fun e W => e = .returned (.tuple #[.slice none 0 0, .int .i64 0]) ∧ Below w.heap.size w W := by
  have hra := ha.room
  have hma := ha.most
  have hrb := hb.room
  have hmb := hb.most
  have HA := Lib.hid ha
  have HB := Lib.hid hb
  have HP := Lib.hid hp
  have HQ := Lib.hid hq
  have H0 := Lib.hid h0
  clear hp hq h0
  have hb1 : Below w.heap.size w (w.alloc (.cells #[.slice b q.length cb] 22)) := (Below.refl _ w).alloc (Nat.le_refl _) _
  have c1 := cell_new w (.slice b q.length cb) 22
  have hs1 : (w.alloc (.cells #[.slice b q.length cb] 22)).heap.size = w.heap.size + 1 := by simp
  clear ha hb
  refine (callsIn_wide (n := 6)).1 ?_
  refine callsIn_of_wp_marks Try.func23 rfl trivial ?_ rfl
  refine wpIn_wide.2 ?_
  simp only [Try.ntmps23, List.size_toArray, List.length_cons, List.length_nil, Nat.reduceAdd, Nat.reduceSub, Array.replicate_succ, Array.replicate_zero, List.push_toArray, List.append_toArray, List.nil_append, List.cons_append]
  go_wp2_with fail
  generalize w.alloc (.cells #[.slice b q.length cb] 22) = w1 at *
  have HA1 := Lib.hid (HA.out.below hb1)
  have HB1 := Lib.hid (HB.out.below hb1)
  refine (valid_yes a p ca w1 HA1.out HP.out).mono ?_
  rintro e w2 ⟨rfl, hb2⟩
  have c2 := cell_below hb2 c1
  have HB2 := Lib.hid (HB1.out.below hb2)
  have hs2 := hb2.size
  go_wp2_with fail
  refine (valid_yes b q cb w2 HB2.out HQ.out).mono ?_
  rintro e w3 ⟨rfl, hb3⟩
  have c3 := cell_below hb3 c2
  have hs3 := hb3.size
  have hz1 : ((p.length : Int) == 0) = true := by rw [H0.out]; rfl
  go_wp2
  exact ⟨.tuple #[.slice none 0 0, .int .i64 0], by simp [results, Try.f23, go_sem], rfl, (hb1.trans (hb2.mono (by omega))).trans (hb3.mono (by omega))⟩
set_option maxRecDepth 100000 in
set_option maxHeartbeats 1000000 in
theorem mul_zero2 (a b : Option Addr) (ca cb : Nat) (p q : List PM.G) (w : World) (ha : Row w a p ca) (hb : Row w b q cb) (hp : Pol p) (hq : Pol q) (hp0 : 0 < p.length) (h0 : q.length = 0) :
    Calls Try.prog 23 #[.slice a p.length ca, .slice b q.length cb] w fun e W => e = .returned (.tuple #[.slice none 0 0, .int .i64 0]) ∧ Below w.heap.size w W := by
  have hra := ha.room
  have hma := ha.most
  have hrb := hb.room
  have hmb := hb.most
  have HA := Lib.hid ha
  have HB := Lib.hid hb
  have HP := Lib.hid hp
  have HQ := Lib.hid hq
  have H0 := Lib.hid h0
  clear hp hq h0
  have hb1 : Below w.heap.size w (w.alloc (.cells #[.slice b q.length cb] 22)) := (Below.refl _ w).alloc (Nat.le_refl _) _
  have c1 := cell_new w (.slice b q.length cb) 22
  have hs1 : (w.alloc (.cells #[.slice b q.length cb] 22)).heap.size = w.heap.size + 1 := by simp
  clear ha hb
  refine (callsIn_wide (n := 6)).1 ?_
  refine callsIn_of_wp_marks Try.func23 rfl trivial ?_ rfl
  refine wpIn_wide.2 ?_
  simp only [Try.ntmps23, List.size_toArray, List.length_cons, List.length_nil, Nat.reduceAdd, Nat.reduceSub, Array.replicate_succ, Array.replicate_zero, List.push_toArray, List.append_toArray, List.nil_append, List.cons_append]
  go_wp2_with fail
  generalize w.alloc (.cells #[.slice b q.length cb] 22) = w1 at *
  have HA1 := Lib.hid (HA.out.below hb1)
  have HB1 := Lib.hid (HB.out.below hb1)
  refine (valid_yes a p ca w1 HA1.out HP.out).mono ?_
  rintro e w2 ⟨rfl, hb2⟩
  have c2 := cell_below hb2 c1
  have HB2 := Lib.hid (HB1.out.below hb2)
  have hs2 := hb2.size
  go_wp2_with fail
  refine (valid_yes b q cb w2 HB2.out HQ.out).mono ?_
  rintro e w3 ⟨rfl, hb3⟩
  have c3 := cell_below hb3 c2
  have hs3 := hb3.size
  have hz1 : ((p.length : Int) == 0) = false := beq_false_of_ne (by omega)
  have hz2 : ((q.length : Int) == 0) = true := by rw [H0.out]; rfl
  go_wp2
  exact ⟨.tuple #[.slice none 0 0, .int .i64 0], by simp [results, Try.f23, go_sem], rfl, (hb1.trans (hb2.mono (by omega))).trans (hb3.mono (by omega))⟩
set_option maxRecDepth 100000 in
set_option maxHeartbeats 1000000 in
theorem mul_limit (a b : Option Addr) (ca cb : Nat) (p q : List PM.G) (w : World) (ha : Row w a p ca) (hb : Row w b q cb) (hp : Pol p) (hq : Pol q) (hp0 : 0 < p.length) (hq0 : 0 < q.length) (hl : 256 < p.length + q.length) :
    Calls Try.prog 23 #[.slice a p.length ca, .slice b q.length cb] w fun e W => e = .returned (.tuple #[.slice none 0 0, .int .i64 3]) ∧ Below w.heap.size w W := by
  have hra := ha.room
  have hma := ha.most
  have hrb := hb.room
  have hmb := hb.most
  have HA := Lib.hid ha
  have HB := Lib.hid hb
  have HP := Lib.hid hp
  have HQ := Lib.hid hq
  have hlp := hp.len
  have hlq := hq.len
  clear hp hq
  have hb1 : Below w.heap.size w (w.alloc (.cells #[.slice b q.length cb] 22)) := (Below.refl _ w).alloc (Nat.le_refl _) _
  have c1 := cell_new w (.slice b q.length cb) 22
  have hs1 : (w.alloc (.cells #[.slice b q.length cb] 22)).heap.size = w.heap.size + 1 := by simp
  clear ha hb
  refine (callsIn_wide (n := 6)).1 ?_
  refine callsIn_of_wp_marks Try.func23 rfl trivial ?_ rfl
  refine wpIn_wide.2 ?_
  simp only [Try.ntmps23, List.size_toArray, List.length_cons, List.length_nil, Nat.reduceAdd, Nat.reduceSub, Array.replicate_succ, Array.replicate_zero, List.push_toArray, List.append_toArray, List.nil_append, List.cons_append]
  go_wp2_with fail
  generalize w.alloc (.cells #[.slice b q.length cb] 22) = w1 at *
  have HA1 := Lib.hid (HA.out.below hb1)
  have HB1 := Lib.hid (HB.out.below hb1)
  refine (valid_yes a p ca w1 HA1.out HP.out).mono ?_
  rintro e w2 ⟨rfl, hb2⟩
  have c2 := cell_below hb2 c1
  have HB2 := Lib.hid (HB1.out.below hb2)
  have hs2 := hb2.size
  go_wp2_with fail
  refine (valid_yes b q cb w2 HB2.out HQ.out).mono ?_
  rintro e w3 ⟨rfl, hb3⟩
  have c3 := cell_below hb3 c2
  have hs3 := hb3.size
  have hz1 : ((p.length : Int) == 0) = false := beq_false_of_ne (by omega)
  have hz2 : ((q.length : Int) == 0) = false := beq_false_of_ne (by omega)
  go_wp2
  exact ⟨.tuple #[.slice none 0 0, .int .i64 3], by simp [results, Try.f23, go_sem], rfl, (hb1.trans (hb2.mono (by omega))).trans (hb3.mono (by omega))⟩

/-- **poly.Mul** of two valid polynomials. -/
theorem mul_yes (a b : Option Addr) (ca cb : Nat) (p q : List PM.G) (w : World) (ha : Row w a p ca) (hb : Row w b q cb) (hp : Pol p) (hq : Pol q) (hl : p.length + q.length ≤ 256) :
    Calls Try.prog 23 #[.slice a p.length ca, .slice b q.length cb] w fun e W => PRes (PM.conv (PM.el p) (PM.el q)) e W ∧ Below w.heap.size w W := by
  have nil : ∀ W : World, (∀ k, PM.conv (PM.el p) (PM.el q) k = 0) → PRes (PM.conv (PM.el p) (PM.el q)) (.returned (.tuple #[.slice none 0 0, .int .i64 0])) W :=
    fun W h => ⟨[], none, 0, rfl, Row.nil _ _ _ (by omega), ⟨PM.can_nil, Nat.zero_le _⟩, fun k => (h k).symm⟩
  by_cases hp0 : p.length = 0
  · refine (mul_zero1 a b ca cb p q w ha hb hp hq hp0).mono ?_
    rintro e W ⟨rfl, hB⟩
    refine ⟨nil W (fun k => ?_), hB⟩
    rw [List.length_eq_zero_iff.1 hp0]; exact PM.conv_zeroC_l _ k
  · by_cases hq0 : q.length = 0
    · refine (mul_zero2 a b ca cb p q w ha hb hp hq (by omega) hq0).mono ?_
      rintro e W ⟨rfl, hB⟩
      refine ⟨nil W (fun k => ?_), hB⟩
      rw [PM.conv_comm, List.length_eq_zero_iff.1 hq0]; exact PM.conv_zeroC_l _ k
    · exact mul_fit a b ca cb p q w ha hb hp hq (by omega) (by omega) hl
end Go.Proofs.Ytfbogjibofeckaa.P
