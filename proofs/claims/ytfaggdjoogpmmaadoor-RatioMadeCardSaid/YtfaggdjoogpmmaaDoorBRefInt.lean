/- The reference's Int; its Divide by 0. -/
import Derived.Test.YtfaggdjoogpmmaaDoorBIntAll
import Derived.Test.YtfaggdjoogpmmaaDoorB10
import Derived.Test.YtfaggdjoogpmmaaDoorBBadRat
namespace Go.Proofs.YtfaggdjoogpmmaaDoor
open Go Go.RowKit Go.Shelf

set_option maxRecDepth 100000 in
set_option maxHeartbeats 1000000 in
/-- **ref01.Divide** by 0. -/
theorem rdiv_zero (a b : Option Addr) (ca cb x : Nat) (w : World) (hx : (M.dig x).length ≤ 200) (hA : Row w a (M.dig x) ca) (hB : Row w b (M.dig 0) cb) :
    Calls Tryd.prog 64 #[.agg #[.slice a (M.dig x).length ca], .agg #[.slice b (M.dig 0).length cb]] w fun e W' => e = .returned (.tuple #[.agg #[.slice none 0 0], .agg #[.slice none 0 0], .int .i64 4]) ∧ Below w.heap.size w W' := by
  have HZ := Lib.hid (show (((M.dig 0).length : Int) == 0) = true by rw [M.dig_zero]; rfl)
  have HS := Lib.hid (BSt.nat2 hA hB)
  have HX := Lib.hid (vld_dig hx)
  have HY := Lib.hid (vld_dig (n := 0) (by rw [M.dig_zero]; exact Nat.zero_le _))
  clear hA hB
  go_enter Tryd.func64, Tryd.ntmps64
  go_wp2_with fail
  generalize ((((w.alloc (.cells #[.slice a (M.dig x).length ca] 24)).alloc (.cells #[.slice b (M.dig 0).length cb] 24)).alloc (.cells #[.slice none 0 0] 24)).alloc (.cells #[.slice none 0 0] 24)) = w3 at *
  refine (rvalid_yes a _ ca _ HS.out.ra HX.out).mono ?_
  rintro e w4 ⟨rfl, hb4⟩
  have HS4 := Lib.hid (HS.out.keep hb4)
  have d1 := HS4.out.c1
  clear hb4 HS
  go_wp2_with fail
  refine (rvalid_yes b _ cb _ HS4.out.rb HY.out).mono ?_
  rintro e w5 ⟨rfl, hb5⟩
  have HS5 := Lib.hid (HS4.out.keep hb5)
  clear hb5 HS4 d1
  have d1 := HS5.out.c1
  have z := HZ.out
  have r0 := (HS5.out.res ⟨w.heap.size + 1 + 1, 0, none⟩ (by simp)).1
  have f0 := (HS5.out.res ⟨w.heap.size + 1 + 1, 0, none⟩ (by simp)).2
  have r1 := (HS5.out.res ⟨w.heap.size + 1 + 1 + 1, 0, none⟩ (by simp)).1
  have f1 := (HS5.out.res ⟨w.heap.size + 1 + 1 + 1, 0, none⟩ (by simp)).2
  have HB := Lib.hid HS5.out.below
  clear HS5
  go_wp2_with fail
  refine bodyPost_ret (v := .tuple #[.agg #[.slice none 0 0], .agg #[.slice none 0 0], .int .i64 4]) (by simp [results, Tryd.results64, go_sem, r0, r1]) rfl ⟨rfl, ((HB.out.setCell (p := ⟨w.heap.size + 1 + 1, 0, none⟩) (by show _ ≤ w.heap.size + 1 + 1; omega) _).setCell (p := ⟨w.heap.size + 1 + 1 + 1, 0, none⟩) (by show _ ≤ w.heap.size + 1 + 1 + 1; omega) _)⟩

set_option maxRecDepth 100000 in
set_option maxHeartbeats 1000000 in
theorem rint_bad (a : Option Addr) (ca : Nat) (zs : List Int) (w : World) (hV : ¬ Vld zs) (hA : Row w a zs ca) :
    Calls Tryd.prog 66 #[.agg #[.slice a zs.length ca]] w fun e W' => e = .returned (.tuple #[.int .i64 0, .int .i64 1]) ∧ Below w.heap.size w W' := by
  have HB0 := Lib.hid ((Below.refl _ w).alloc (Nat.le_refl _) (.cells #[.slice a zs.length ca] 24))
  have HA := Lib.hid (hA.below HB0.out)
  have HV := Lib.hid hV
  clear hA hV
  go_enter Tryd.func66, Tryd.ntmps66
  go_wp2_with fail
  refine (rvalid_no a _ ca _ HA.out HV.out).mono ?_
  rintro e w1 ⟨rfl, hb1⟩
  have HB1 := Lib.hid (HB0.out.trans (hb1.mono HB0.out.size))
  clear hb1 HB0
  go_wp2_with fail
  go_ret2
  exact ⟨rfl, HB1.out⟩

set_option maxRecDepth 100000 in
set_option maxHeartbeats 1000000 in
theorem rint_big (a : Option Addr) (ca x : Nat) (w : World) (hx : (4611686018427387904 : Int) < (x : Int)) (hx200 : (M.dig x).length ≤ 200) (hA : Row w a (M.dig x) ca) :
    Calls Tryd.prog 66 #[.agg #[.slice a (M.dig x).length ca]] w fun e W' => e = .returned (.tuple #[.int .i64 0, .int .i64 3]) ∧ Below w.heap.size w W' := by
  have HV := Lib.hid (vld_dig hx200)
  obtain ⟨N, hN⟩ : ∃ N : Nat, (N : Int) = 4611686018427387904 := ⟨4611686018427387904, rfl⟩
  have ho := fun W : World => rof_any N W (by omega)
  rw [hN] at ho
  have HO := Lib.hid ho
  have HN := Lib.hid hN
  clear ho hN
  have c0 := cell_new w (.slice a (M.dig x).length ca) 24
  have HB0 := Lib.hid ((Below.refl _ w).alloc (Nat.le_refl _) (.cells #[.slice a (M.dig x).length ca] 24))
  have HA := Lib.hid (hA.below HB0.out)
  have hroom := hA.room
  have hmost := hA.most
  clear hA
  go_enter Tryd.func66, Tryd.ntmps66
  go_wp2_with fail
  generalize hw1 : w.alloc (.cells #[.slice a (M.dig x).length ca] 24) = w0 at *
  have hs0 : w0.heap.size = w.heap.size + 1 := by rw [← hw1, World.size_alloc]
  clear hw1
  refine (rvalid_yes a _ ca _ HA.out HV.out).mono ?_
  rintro e w1 ⟨rfl, hb1⟩
  have c1 := cell_below hb1 c0
  have HA1 := Lib.hid (HA.out.below hb1)
  have HB1 := Lib.hid (HB0.out.trans (hb1.mono HB0.out.size))
  clear hb1 c0 HB0 HA
  go_wp2_with fail
  refine (HO.out w1).mono ?_
  rintro e w2 ⟨v, rfl, ⟨a2, p2, rfl, hr2⟩, hb2⟩
  have c2 := cell_later (.cells #[.slice a2 (M.dig N).length p2] 24) (cell_below hb2 c1)
  have HA2 := Lib.hid ((HA1.out.below hb2).alloc (.cells #[.slice a2 (M.dig N).length p2] 24))
  have HB2 := Lib.hid (HB1.out.trans (hb2.mono HB1.out.size))
  replace HB2 := Lib.hid (HB2.out.alloc HB2.out.size (.cells #[.slice a2 (M.dig N).length p2] 24))
  have VN := Lib.hid (Var.new hr2)
  clear hb2 c1 HB1 hr2 HA1
  have e2 := VN.out.cell
  go_wp2_with fail
  refine (rcmp_any a a2 ca p2 x N _ HA2.out VN.out.row).mono ?_
  rintro e w3 ⟨rfl, hb3⟩
  have c3 := cell_below hb3 c2
  have HA3 := Lib.hid (HA2.out.below hb3)
  have HB3 := Lib.hid (HB2.out.trans (hb3.mono HB2.out.size))
  clear hb3 c2 HB2 e2 VN HA2
  rw [compare_gt (show (N : Int) < (x : Int) by rw [HN.out]; exact hx)]
  go_wp2_with fail
  go_ret2
  exact ⟨rfl, HB3.out⟩

set_option maxRecDepth 100000 in
set_option maxHeartbeats 1000000 in
theorem rint_any (a : Option Addr) (ca x : Nat) (w : World) (hx : (x : Int) ≤ 4611686018427387904) (hA : Row w a (M.dig x) ca) :
    Calls Tryd.prog 66 #[.agg #[.slice a (M.dig x).length ca]] w fun e W' => e = .returned (.tuple #[.int .i64 (x : Int), .int .i64 0]) ∧ Below w.heap.size w W' := by
  have hx200 : (M.dig x).length ≤ 200 := Nat.le_trans (M.dig_len_le.2 (Nat.lt_of_le_of_lt (by omega : x ≤ 4611686018427387904) (by decide : 4611686018427387904 < 16777216 ^ 3))) (by omega)
  have HV := Lib.hid (vld_dig hx200)
  obtain ⟨N, hN⟩ : ∃ N : Nat, (N : Int) = 4611686018427387904 := ⟨4611686018427387904, rfl⟩
  have ho := fun W : World => rof_any N W (by omega)
  rw [hN] at ho
  have HO := Lib.hid ho
  have HN := Lib.hid hN
  clear ho hN
  have c0 := cell_new w (.slice a (M.dig x).length ca) 24
  have HB0 := Lib.hid ((Below.refl _ w).alloc (Nat.le_refl _) (.cells #[.slice a (M.dig x).length ca] 24))
  have HA := Lib.hid (hA.below HB0.out)
  have hroom := hA.room
  have hmost := hA.most
  clear hA
  go_enter Tryd.func66, Tryd.ntmps66
  go_wp2_with fail
  generalize hw1 : w.alloc (.cells #[.slice a (M.dig x).length ca] 24) = w0 at *
  have hs0 : w0.heap.size = w.heap.size + 1 := by rw [← hw1, World.size_alloc]
  clear hw1
  refine (rvalid_yes a _ ca _ HA.out HV.out).mono ?_
  rintro e w1 ⟨rfl, hb1⟩
  have c1 := cell_below hb1 c0
  have HA1 := Lib.hid (HA.out.below hb1)
  have HB1 := Lib.hid (HB0.out.trans (hb1.mono HB0.out.size))
  clear hb1 c0 HB0 HA
  go_wp2_with fail
  refine (HO.out w1).mono ?_
  rintro e w2 ⟨v, rfl, ⟨a2, p2, rfl, hr2⟩, hb2⟩
  have c2 := cell_later (.cells #[.slice a2 (M.dig N).length p2] 24) (cell_below hb2 c1)
  have HA2 := Lib.hid ((HA1.out.below hb2).alloc (.cells #[.slice a2 (M.dig N).length p2] 24))
  have HB2 := Lib.hid (HB1.out.trans (hb2.mono HB1.out.size))
  replace HB2 := Lib.hid (HB2.out.alloc HB2.out.size (.cells #[.slice a2 (M.dig N).length p2] 24))
  have VN := Lib.hid (Var.new hr2)
  clear hb2 c1 HB1 hr2 HA1
  have e2 := VN.out.cell
  go_wp2_with fail
  refine (rcmp_any a a2 ca p2 x N _ HA2.out VN.out.row).mono ?_
  rintro e w3 ⟨rfl, hb3⟩
  have c3 := cell_below hb3 c2
  have HA3 := Lib.hid (HA2.out.below hb3)
  have HB3 := Lib.hid (HB2.out.trans (hb3.mono HB2.out.size))
  clear hb3 c2 HB2 e2 VN HA2
  have hcmp : ¬ 0 < Lib.compareInt (x : Int) (N : Int) := by
    rcases Int.lt_or_eq_of_le hx with h | h
    · rw [compare_lt (by rw [HN.out]; exact h)]; decide
    · rw [compare_eq (by rw [HN.out]; exact h)]; decide
  generalize Lib.compareInt (x : Int) (N : Int) = cc at *
  go_wp2_with fail
  have HC3 := Lib.hid c3
  clear hcmp c3
  go_loop [6, 7] (fun v i => ∃ k : Nat, k ≤ (M.dig x).length ∧ i = .int .i64 ((k : Int) - 1) ∧ v = .int .i64 (M.val ((M.dig x).drop k))) (fun _ i => (intOf i + 1).toNat)
  case atStart => exact ⟨(M.dig x).length, Nat.le_refl _, rfl, by rw [List.drop_length]; rfl⟩
  case round =>
    obtain ⟨k, hk, rfl, rfl⟩ := hrel
    rcases Nat.eq_zero_or_pos k with hz | hz
    · subst hz
      go_wp2_with fail
      go_ret2
      exact ⟨by show Ending.returned (.tuple #[.int .i64 (M.val (M.dig x)), .int .i64 0]) = _; rw [M.val_dig], HB3.out⟩
    · obtain ⟨j, rfl⟩ : ∃ j, k = j + 1 := ⟨k - 1, by omega⟩
      have h1 := drop_val x j (by omega)
      have h2 := drop_le x j (by omega)
      have h3 := M.val_nonneg ((M.lim_dig x).drop (j + 1))
      have hel := (M.lim_dig x).get j
      obtain ⟨ba, offa, rfl, hca⟩ := HA3.out.el j (by omega)
      have c3 := HC3.out
      have H1 := Lib.hid h1
      clear h1
      generalize hr : M.val ((M.dig x).drop (j + 1)) = r at *
      have ecast : ((j + 1 : Nat) : Int) - 1 = (j : Int) := by omega
      rw [ecast]
      have HE := Lib.hid ecast
      have hr2 : r ≤ 274877906944 := by omega
      have hl1 : M.el (M.dig x) j < 16777216 := hel.2
      have hl0 : 0 ≤ M.el (M.dig x) j := hel.1
      clear ecast hx h2
      go_wp2_with fail
      go_round
      case rel => exact ⟨j, by omega, rfl, by rw [H1.out]⟩
      case measure => simp [intOf]
end Go.Proofs.YtfaggdjoogpmmaaDoor
