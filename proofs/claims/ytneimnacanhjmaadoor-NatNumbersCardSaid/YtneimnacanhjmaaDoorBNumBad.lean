/- What nat's and the reference's Power, Choose and Parse answer out of their ranges. -/
import Derived.Test.YtneimnacanhjmaaDoorBRefPow
import Derived.Test.YtneimnacanhjmaaDoorBParse
namespace Go.Proofs.YtneimnacanhjmaaDoor
open Go Go.RowKit Go.Shelf

set_option maxRecDepth 100000 in
set_option maxHeartbeats 1000000 in
/-- **nat.Power**, out of range. -/
theorem power_range (a : Option Addr) (ca x : Nat) (n : Int) (w : World) (hx : (M.dig x).length ≤ 200) (hn : n < 0 ∨ 4800 < n) (hR : Row w a (M.dig x) ca) :
    Calls Tryd.prog 33 #[.agg #[.slice a (M.dig x).length ca], .int .i64 n] w fun e W' => e = .returned (.tuple #[.agg #[.slice none 0 0], .int .i64 2]) ∧ Below w.heap.size w W' := by
  have Hv := Lib.hid (vld_dig hx)
  have hB2 := boxes1_below w (.slice a (M.dig x).length ca)
  have hs2 := boxes1_size w (.slice a (M.dig x).length ca)
  obtain ⟨c0, c1, f1⟩ := boxes1_cells w (.slice a (M.dig x).length ca)
  have HR := Lib.hid (hR.below hB2)
  have HB := Lib.hid hB2
  clear hR hB2
  go_enter Tryd.func33, Tryd.ntmps33
  go_wp2_with fail
  generalize hw3 : ((w.alloc (.cells #[.slice a (M.dig x).length ca] 24)).alloc (.cells #[.slice none 0 0] 24)) = w3
  obtain rfl : boxes1 w (.slice a (M.dig x).length ca) = w3 := hw3
  generalize boxes1 w (.slice a (M.dig x).length ca) = w3 at *
  refine (valid_yes a _ ca _ HR.out Hv.out).mono ?_
  rintro e w5 ⟨rfl, hb5⟩
  have k0 := cell_below hb5 c0
  have k1 := cell_below hb5 c1
  have l1 := frozen_below hb5 c1 f1
  have HB5 := Lib.hid (HB.out.trans (hb5.mono (by omega)))
  clear c0 c1 f1 hb5
  by_cases h0 : n < 0
  · clear hn
    go_wp2_with fail
    refine bodyPost_ret (v := .tuple #[.agg #[.slice none 0 0], .int .i64 2]) (by simp [results, Tryd.results33, go_sem, k1]) rfl ⟨rfl, HB5.out.setCell (p := ⟨w.heap.size + 1, 0, none⟩) (by show w.heap.size ≤ w.heap.size + 1; omega) _⟩
  · have h1 : 4800 < n := by omega
    clear hn
    go_wp2_with fail
    refine bodyPost_ret (v := .tuple #[.agg #[.slice none 0 0], .int .i64 2]) (by simp [results, Tryd.results33, go_sem, k1]) rfl ⟨rfl, HB5.out.setCell (p := ⟨w.heap.size + 1, 0, none⟩) (by show w.heap.size ≤ w.heap.size + 1; omega) _⟩

set_option maxRecDepth 100000 in
set_option maxHeartbeats 1000000 in
theorem choose_range (n k : Int) (w : World) (hn : n < 0 ∨ 4096 < n) :
    Calls Tryd.prog 35 #[.int .i64 n, .int .i64 k] w fun e W' => e = .returned (.tuple #[.agg #[.slice none 0 0], .int .i64 2]) ∧ Below w.heap.size w W' := by
  by_cases h : n < 0
  · clear hn
    skip
    go_enter Tryd.func35, Tryd.ntmps35
    go_wp2
    exact bodyPost_ret (v := .tuple #[.agg #[.slice none 0 0], .int .i64 2]) (by simp [results, Tryd.results35, go_sem]) rfl ⟨rfl, (Below.refl _ w).alloc (Nat.le_refl _) _⟩
  · have h2 : 4096 < n := by omega
    clear hn
    skip
    go_enter Tryd.func35, Tryd.ntmps35
    go_wp2
    exact bodyPost_ret (v := .tuple #[.agg #[.slice none 0 0], .int .i64 2]) (by simp [results, Tryd.results35, go_sem]) rfl ⟨rfl, (Below.refl _ w).alloc (Nat.le_refl _) _⟩

set_option maxRecDepth 100000 in
set_option maxHeartbeats 1000000 in
theorem rchoose_range (n k : Int) (w : World) (hn : n < 0 ∨ 4096 < n) :
    Calls Tryd.prog 36 #[.int .i64 n, .int .i64 k] w fun e W' => e = .returned (.tuple #[.agg #[.slice none 0 0], .int .i64 2]) ∧ Below w.heap.size w W' := by
  by_cases h : n < 0
  · clear hn
    skip
    go_enter Tryd.func36, Tryd.ntmps36
    go_wp2
    exact bodyPost_ret (v := .tuple #[.agg #[.slice none 0 0], .int .i64 2]) (by simp [results, Tryd.results36, go_sem]) rfl ⟨rfl, (Below.refl _ w).alloc (Nat.le_refl _) _⟩
  · have h2 : 4096 < n := by omega
    clear hn
    skip
    go_enter Tryd.func36, Tryd.ntmps36
    go_wp2
    exact bodyPost_ret (v := .tuple #[.agg #[.slice none 0 0], .int .i64 2]) (by simp [results, Tryd.results36, go_sem]) rfl ⟨rfl, (Below.refl _ w).alloc (Nat.le_refl _) _⟩

set_option maxRecDepth 100000 in
set_option maxHeartbeats 1000000 in
theorem rchoose_none (n : Nat) (k : Int) (w : World) (hn : n ≤ 4096) (hk : k < 0 ∨ (n : Int) < k) :
    Calls Tryd.prog 36 #[.int .i64 (n : Int), .int .i64 k] w fun e W' => e = .returned (.tuple #[.agg #[.slice none 0 0], .int .i64 0]) ∧ Below w.heap.size w W' := by
  have c0 := (cell_of_new w (.slice none 0 0) 24).1
  have d1 : decide ((n : Int) < 0) = false := by simp
  have d2 : decide ((4096 : Int) < (n : Int)) = false := by simp; omega
  by_cases h : k < 0
  · clear hk
    go_enter Tryd.func36, Tryd.ntmps36
    go_wp2
    exact bodyPost_ret (v := .tuple #[.agg #[.slice none 0 0], .int .i64 0]) (by simp [results, Tryd.results36, go_sem]) rfl ⟨rfl, (Below.refl _ w).alloc (Nat.le_refl _) _⟩
  · have h2 : (n : Int) < k := by omega
    have h3 : ¬ k < 0 := h
    clear hk h
    go_enter Tryd.func36, Tryd.ntmps36
    go_wp2
    exact bodyPost_ret (v := .tuple #[.agg #[.slice none 0 0], .int .i64 0]) (by simp [results, Tryd.results36, go_sem]) rfl ⟨rfl, (Below.refl _ w).alloc (Nat.le_refl _) _⟩

set_option maxRecDepth 100000 in
set_option maxHeartbeats 1000000 in
theorem parse_long (s : ByteArray) (w : World) (hs : 1445 < s.size) :
    Calls Tryd.prog 37 #[.string s] w fun e W' => e = .returned (.tuple #[.agg #[.slice none 0 0], .int .i64 3]) ∧ Below w.heap.size w W' := by
  have hsz : 1445 < (s.size : Int) := by omega
  go_enter Tryd.func37, Tryd.ntmps37
  go_wp2_with fail
  exact bodyPost_ret (v := .tuple #[.agg #[.slice none 0 0], .int .i64 3]) (by simp [results, Tryd.results37, go_sem]) rfl ⟨rfl, (Below.refl _ w).alloc (Nat.le_refl _) _⟩

set_option maxRecDepth 100000 in
set_option maxHeartbeats 1000000 in
theorem rparse_long (s : ByteArray) (w : World) (hs : 1445 < s.size) :
    Calls Tryd.prog 38 #[.string s] w fun e W' => e = .returned (.tuple #[.agg #[.slice none 0 0], .int .i64 3]) ∧ Below w.heap.size w W' := by
  have hsz : 1445 < (s.size : Int) := by omega
  go_enter Tryd.func38, Tryd.ntmps38
  go_wp2_with fail
  exact bodyPost_ret (v := .tuple #[.agg #[.slice none 0 0], .int .i64 3]) (by simp [results, Tryd.results38, go_sem]) rfl ⟨rfl, (Below.refl _ w).alloc (Nat.le_refl _) _⟩

set_option maxRecDepth 100000 in
set_option maxHeartbeats 1000000 in
theorem parse_form (s : ByteArray) (w : World) (hs : s.size ≤ 1445) (hd : decB s = false) :
    Calls Tryd.prog 37 #[.string s] w fun e W' => e = .returned (.tuple #[.agg #[.slice none 0 0], .int .i64 12]) ∧ Below w.heap.size w W' := by
  have HID := Lib.hid (fun W : World => isDecimal_any s W hs)
  rw [hd] at HID
  clear hd
  go_enter Tryd.func37, Tryd.ntmps37
  go_wp2_with fail
  refine (HID.out _).mono ?_
  rintro e w' ⟨rfl, rfl⟩
  go_wp2_with fail
  exact bodyPost_ret (v := .tuple #[.agg #[.slice none 0 0], .int .i64 12]) (by simp [results, Tryd.results37, go_sem]) rfl ⟨rfl, (Below.refl _ w).alloc (Nat.le_refl _) _⟩

end Go.Proofs.YtneimnacanhjmaaDoor
