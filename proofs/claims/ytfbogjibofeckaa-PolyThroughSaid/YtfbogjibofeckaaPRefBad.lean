/- The reference's answers for lists that are no polynomials. -/
import Derived.Test.YtfbogjibofeckaaPRef2
namespace Go.Proofs.Ytfbogjibofeckaa.P
open Go Go.RowKit Go.Shelf

set_option maxHeartbeats 400000 in
theorem radd_bad1 (a b : Option Addr) (ca cb : Nat) (p q : List PM.G) (w : World) (ha : Row w a p ca) (hp : ¬ Pol p) :
    Calls Try.prog 28 #[.slice a p.length ca, .slice b q.length cb] w fun e W => e = .returned (.tuple #[.slice none 0 0, .int .i64 1]) ∧ Below w.heap.size w W := by
  have HA := Lib.hid ha
  have HP := Lib.hid hp
  clear ha hp
  go_enter Try.func28, Try.ntmps28
  go_wp2_with fail
  (with_reducible refine (rvalid_no a p ca w HA.out HP.out).mono ?_)
  rintro e w1 ⟨rfl, rfl⟩
  go_wp2
  exact bodyPost_ret (v := .tuple #[.slice none 0 0, .int .i64 1]) (by simp [results, Try.results28, go_sem]) rfl ⟨rfl, Below.refl _ _⟩
set_option maxHeartbeats 400000 in
theorem radd_bad2 (a b : Option Addr) (ca cb : Nat) (p q : List PM.G) (w : World) (ha : Row w a p ca) (hb : Row w b q cb) (hp : Pol p) (hq : ¬ Pol q) :
    Calls Try.prog 28 #[.slice a p.length ca, .slice b q.length cb] w fun e W => e = .returned (.tuple #[.slice none 0 0, .int .i64 1]) ∧ Below w.heap.size w W := by
  have HA := Lib.hid ha
  have HB := Lib.hid hb
  have HP := Lib.hid hp
  have HQ := Lib.hid hq
  clear ha hp hb hq
  go_enter Try.func28, Try.ntmps28
  go_wp2_with fail
  (with_reducible refine (rvalid_yes a p ca w HA.out HP.out).mono ?_)
  rintro e w1 ⟨rfl, rfl⟩
  go_wp2_with fail
  (with_reducible refine (rvalid_no b q cb w HB.out HQ.out).mono ?_)
  rintro e w1 ⟨rfl, rfl⟩
  go_wp2
  exact bodyPost_ret (v := .tuple #[.slice none 0 0, .int .i64 1]) (by simp [results, Try.results28, go_sem]) rfl ⟨rfl, Below.refl _ _⟩
set_option maxHeartbeats 400000 in
theorem rmul_bad1 (a b : Option Addr) (ca cb : Nat) (p q : List PM.G) (w : World) (ha : Row w a p ca) (hp : ¬ Pol p) :
    Calls Try.prog 15 #[.slice a p.length ca, .slice b q.length cb] w fun e W => e = .returned (.tuple #[.slice none 0 0, .int .i64 1]) ∧ Below w.heap.size w W := by
  have HA := Lib.hid ha
  have HP := Lib.hid hp
  clear ha hp
  go_enter Try.func15, Try.ntmps15
  go_wp2_with fail
  (with_reducible refine (rvalid_no a p ca w HA.out HP.out).mono ?_)
  rintro e w1 ⟨rfl, rfl⟩
  go_wp2
  exact bodyPost_ret (v := .tuple #[.slice none 0 0, .int .i64 1]) (by simp [results, Try.results15, go_sem]) rfl ⟨rfl, Below.refl _ _⟩
set_option maxHeartbeats 400000 in
theorem rmul_bad2 (a b : Option Addr) (ca cb : Nat) (p q : List PM.G) (w : World) (ha : Row w a p ca) (hb : Row w b q cb) (hp : Pol p) (hq : ¬ Pol q) :
    Calls Try.prog 15 #[.slice a p.length ca, .slice b q.length cb] w fun e W => e = .returned (.tuple #[.slice none 0 0, .int .i64 1]) ∧ Below w.heap.size w W := by
  have HA := Lib.hid ha
  have HB := Lib.hid hb
  have HP := Lib.hid hp
  have HQ := Lib.hid hq
  clear ha hp hb hq
  go_enter Try.func15, Try.ntmps15
  go_wp2_with fail
  (with_reducible refine (rvalid_yes a p ca w HA.out HP.out).mono ?_)
  rintro e w1 ⟨rfl, rfl⟩
  go_wp2_with fail
  (with_reducible refine (rvalid_no b q cb w HB.out HQ.out).mono ?_)
  rintro e w1 ⟨rfl, rfl⟩
  go_wp2
  exact bodyPost_ret (v := .tuple #[.slice none 0 0, .int .i64 1]) (by simp [results, Try.results15, go_sem]) rfl ⟨rfl, Below.refl _ _⟩
set_option maxHeartbeats 400000 in
theorem rdiv_bad1 (a b : Option Addr) (ca cb : Nat) (p q : List PM.G) (w : World) (ha : Row w a p ca) (hp : ¬ Pol p) :
    Calls Try.prog 29 #[.slice a p.length ca, .slice b q.length cb] w fun e W => e = .returned (.tuple #[.slice none 0 0, .slice none 0 0, .int .i64 1]) ∧ Below w.heap.size w W := by
  have HA := Lib.hid ha
  have HP := Lib.hid hp
  clear ha hp
  go_enter Try.func29, Try.ntmps29
  go_wp2_with fail
  (with_reducible refine (rvalid_no a p ca w HA.out HP.out).mono ?_)
  rintro e w1 ⟨rfl, rfl⟩
  go_wp2
  exact bodyPost_ret (v := .tuple #[.slice none 0 0, .slice none 0 0, .int .i64 1]) (by simp [results, Try.results29, go_sem]) rfl ⟨rfl, Below.refl _ _⟩
set_option maxHeartbeats 400000 in
theorem rdiv_bad2 (a b : Option Addr) (ca cb : Nat) (p q : List PM.G) (w : World) (ha : Row w a p ca) (hb : Row w b q cb) (hp : Pol p) (hq : ¬ Pol q) :
    Calls Try.prog 29 #[.slice a p.length ca, .slice b q.length cb] w fun e W => e = .returned (.tuple #[.slice none 0 0, .slice none 0 0, .int .i64 1]) ∧ Below w.heap.size w W := by
  have HA := Lib.hid ha
  have HB := Lib.hid hb
  have HP := Lib.hid hp
  have HQ := Lib.hid hq
  clear ha hp hb hq
  go_enter Try.func29, Try.ntmps29
  go_wp2_with fail
  (with_reducible refine (rvalid_yes a p ca w HA.out HP.out).mono ?_)
  rintro e w1 ⟨rfl, rfl⟩
  go_wp2_with fail
  (with_reducible refine (rvalid_no b q cb w HB.out HQ.out).mono ?_)
  rintro e w1 ⟨rfl, rfl⟩
  go_wp2
  exact bodyPost_ret (v := .tuple #[.slice none 0 0, .slice none 0 0, .int .i64 1]) (by simp [results, Try.results29, go_sem]) rfl ⟨rfl, Below.refl _ _⟩
set_option maxHeartbeats 400000 in
theorem rgcd_bad1 (a b : Option Addr) (ca cb : Nat) (p q : List PM.G) (w : World) (ha : Row w a p ca) (hp : ¬ Pol p) :
    Calls Try.prog 30 #[.slice a p.length ca, .slice b q.length cb] w fun e W => e = .returned (.tuple #[.slice none 0 0, .int .i64 1]) ∧ Below w.heap.size w W := by
  have HA := Lib.hid ha
  have HP := Lib.hid hp
  clear ha hp
  go_enter Try.func30, Try.ntmps30
  go_wp2_with fail
  (with_reducible refine (rvalid_no a p ca w HA.out HP.out).mono ?_)
  rintro e w1 ⟨rfl, rfl⟩
  go_wp2
  exact bodyPost_ret (v := .tuple #[.slice none 0 0, .int .i64 1]) (by simp [results, Try.results30, go_sem]) rfl ⟨rfl, Below.refl _ _⟩
set_option maxHeartbeats 400000 in
theorem rgcd_bad2 (a b : Option Addr) (ca cb : Nat) (p q : List PM.G) (w : World) (ha : Row w a p ca) (hb : Row w b q cb) (hp : Pol p) (hq : ¬ Pol q) :
    Calls Try.prog 30 #[.slice a p.length ca, .slice b q.length cb] w fun e W => e = .returned (.tuple #[.slice none 0 0, .int .i64 1]) ∧ Below w.heap.size w W := by
  have HA := Lib.hid ha
  have HB := Lib.hid hb
  have HP := Lib.hid hp
  have HQ := Lib.hid hq
  clear ha hp hb hq
  go_enter Try.func30, Try.ntmps30
  go_wp2_with fail
  (with_reducible refine (rvalid_yes a p ca w HA.out HP.out).mono ?_)
  rintro e w1 ⟨rfl, rfl⟩
  go_wp2_with fail
  (with_reducible refine (rvalid_no b q cb w HB.out HQ.out).mono ?_)
  rintro e w1 ⟨rfl, rfl⟩
  go_wp2
  exact bodyPost_ret (v := .tuple #[.slice none 0 0, .int .i64 1]) (by simp [results, Try.results30, go_sem]) rfl ⟨rfl, Below.refl _ _⟩
end Go.Proofs.Ytfbogjibofeckaa.P
