/- Make of any two lists of limbs. -/
import Derived.Test.YtfaggdjoogpmmaaDoorBBadRat
import Derived.Test.YtfaggdjoogpmmaaDoorB10
namespace Go.Proofs.YtfaggdjoogpmmaaDoor
open Go Go.RowKit Go.Shelf

set_option maxRecDepth 100000 in
set_option maxHeartbeats 1000000 in
theorem make_bad (a b : Option Addr) (ca cb : Nat) (zs ys : List Int) (w : World) (hA : Row w a zs ca) (hB : Row w b ys cb) (h : ¬ (Vld zs ∧ Vld ys)) :
    Calls Tryd.prog 51 #[.agg #[.slice a zs.length ca], .agg #[.slice b ys.length cb]] w fun e W' => e = .returned (.tuple #[.agg #[.slice none 0 0, .slice none 0 0], .int .i64 1]) ∧ Below w.heap.size w W' := by
  have HS := Lib.hid (BSt.ratio hA hB)
  have HH := Lib.hid h
  clear hA hB h
  go_enter Tryd.func51, Tryd.ntmps51
  go_wp2_with fail
  generalize (((w.alloc (.cells #[.slice a zs.length ca] 24)).alloc (.cells #[.slice b ys.length cb] 24)).alloc (.cells #[.slice none 0 0, .slice none 0 0] 58)) = w3 at *
  refine (gcd_bad a b ca cb zs ys w3 HS.out.ra HS.out.rb HH.out).mono ?_
  rintro e w4 ⟨rfl, hb4⟩
  have HS4 := Lib.hid ((HS.out.keep hb4).alloc (.cells #[.slice none 0 0] 24))
  clear hb4 HS
  have r0 := (HS4.out.res ⟨w.heap.size + 1 + 1, 0, none⟩ (by simp)).1
  have f0 := (HS4.out.res ⟨w.heap.size + 1 + 1, 0, none⟩ (by simp)).2
  have r1 := (HS4.out.res ⟨w.heap.size + 1 + 1, 1, none⟩ (by simp)).1
  have f1 := (HS4.out.res ⟨w.heap.size + 1 + 1, 1, none⟩ (by simp)).2
  have HB := Lib.hid HS4.out.below
  clear HS4
  go_wp2_with fail
  refine bodyPost_ret (v := .tuple #[.agg #[.slice none 0 0, .slice none 0 0], .int .i64 1]) (by simp [results, Tryd.results51, go_sem, r0, r1]) rfl ⟨rfl, ((HB.out.setCell (p := ⟨w.heap.size + 1 + 1, 0, none⟩) (by show _ ≤ w.heap.size + 1 + 1; omega) _).setCell (p := ⟨w.heap.size + 1 + 1, 1, none⟩) (by show _ ≤ w.heap.size + 1 + 1; omega) _)⟩

set_option maxRecDepth 100000 in
set_option maxHeartbeats 1000000 in
theorem make_zero (a b : Option Addr) (ca cb x : Nat) (w : World) (hx : (M.dig x).length ≤ 200) (hA : Row w a (M.dig x) ca) (hB : Row w b (M.dig 0) cb) :
    Calls Tryd.prog 51 #[.agg #[.slice a (M.dig x).length ca], .agg #[.slice b (M.dig 0).length cb]] w fun e W' => e = .returned (.tuple #[.agg #[.slice none 0 0, .slice none 0 0], .int .i64 4]) ∧ Below w.heap.size w W' := by
  have HZ := Lib.hid (show (((M.dig 0).length : Int) == 0) = true by rw [M.dig_zero]; rfl)
  have HS := Lib.hid (BSt.ratio hA hB)
  clear hA hB
  go_enter Tryd.func51, Tryd.ntmps51
  go_wp2_with fail
  generalize (((w.alloc (.cells #[.slice a (M.dig x).length ca] 24)).alloc (.cells #[.slice b (M.dig 0).length cb] 24)).alloc (.cells #[.slice none 0 0, .slice none 0 0] 58)) = w3 at *
  refine (gcd_any a b ca cb x 0 w3 hx (by rw [M.dig_zero]; exact Nat.zero_le _) HS.out.ra HS.out.rb).mono ?_
  rintro e w4 ⟨⟨v, rfl, ag, cg, rfl, hrg⟩, hb4⟩
  obtain ⟨k, hk⟩ : ∃ k, Nat.gcd x 0 = k := ⟨_, rfl⟩
  rw [hk] at hrg ⊢
  clear hk
  have HS4 := Lib.hid ((HS.out.keep hb4).alloc (.cells #[.slice ag (M.dig k).length cg] 24))
  have d1 := HS4.out.c1
  clear hb4 HS hrg
  go_wp2_with fail
  refine (isZero_any b cb 0 _).mono ?_
  rintro e w8 ⟨rfl, hb8⟩
  rw [HZ.out]
  have HS8 := Lib.hid (HS4.out.keep hb8)
  clear hb8 HS4 d1
  have r0 := (HS8.out.res ⟨w.heap.size + 1 + 1, 0, none⟩ (by simp)).1
  have f0 := (HS8.out.res ⟨w.heap.size + 1 + 1, 0, none⟩ (by simp)).2
  have r1 := (HS8.out.res ⟨w.heap.size + 1 + 1, 1, none⟩ (by simp)).1
  have f1 := (HS8.out.res ⟨w.heap.size + 1 + 1, 1, none⟩ (by simp)).2
  have HB := Lib.hid HS8.out.below
  clear HS8
  go_wp2_with fail
  refine bodyPost_ret (v := .tuple #[.agg #[.slice none 0 0, .slice none 0 0], .int .i64 4]) (by simp [results, Tryd.results51, go_sem, r0, r1]) rfl ⟨rfl, ((HB.out.setCell (p := ⟨w.heap.size + 1 + 1, 0, none⟩) (by show _ ≤ w.heap.size + 1 + 1; omega) _).setCell (p := ⟨w.heap.size + 1 + 1, 1, none⟩) (by show _ ≤ w.heap.size + 1 + 1; omega) _)⟩

set_option maxRecDepth 100000 in
set_option maxHeartbeats 1000000 in
theorem rmake_zero (a b : Option Addr) (ca cb x : Nat) (w : World) (hx : (M.dig x).length ≤ 200) (hA : Row w a (M.dig x) ca) (hB : Row w b (M.dig 0) cb) :
    Calls Tryd.prog 52 #[.agg #[.slice a (M.dig x).length ca], .agg #[.slice b (M.dig 0).length cb]] w fun e W' => e = .returned (.tuple #[.agg #[.slice none 0 0, .slice none 0 0], .int .i64 4]) ∧ Below w.heap.size w W' := by
  have HZ := Lib.hid (show (((M.dig 0).length : Int) == 0) = true by rw [M.dig_zero]; rfl)
  have HS := Lib.hid (BSt.ratio hA hB)
  have HX := Lib.hid (vld_dig hx)
  have HY := Lib.hid (vld_dig (n := 0) (by rw [M.dig_zero]; exact Nat.zero_le _))
  clear hA hB
  go_enter Tryd.func52, Tryd.ntmps52
  go_wp2_with fail
  generalize (((w.alloc (.cells #[.slice a (M.dig x).length ca] 24)).alloc (.cells #[.slice b (M.dig 0).length cb] 24)).alloc (.cells #[.slice none 0 0, .slice none 0 0] 58)) = w3 at *
  refine (rvalid_yes a _ ca _ HS.out.ra HX.out).mono ?_
  rintro e w4 ⟨rfl, hb4⟩
  have HS4 := Lib.hid (HS.out.keep hb4)
  have d1 := HS4.out.c1
  clear hb4 HS
  go_wp2_with fail
  refine (rvalid_yes b _ cb _ HS4.out.rb HY.out).mono ?_
  rintro e w5 ⟨rfl, hb5⟩
  have HS5 := Lib.hid (HS4.out.keep hb5)
  clear hb5 HS4 d1
  have d1 := HS5.out.c1
  have z := HZ.out
  have r0 := (HS5.out.res ⟨w.heap.size + 1 + 1, 0, none⟩ (by simp)).1
  have f0 := (HS5.out.res ⟨w.heap.size + 1 + 1, 0, none⟩ (by simp)).2
  have r1 := (HS5.out.res ⟨w.heap.size + 1 + 1, 1, none⟩ (by simp)).1
  have f1 := (HS5.out.res ⟨w.heap.size + 1 + 1, 1, none⟩ (by simp)).2
  have HB := Lib.hid HS5.out.below
  clear HS5
  go_wp2_with fail
  refine bodyPost_ret (v := .tuple #[.agg #[.slice none 0 0, .slice none 0 0], .int .i64 4]) (by simp [results, Tryd.results52, go_sem, r0, r1]) rfl ⟨rfl, ((HB.out.setCell (p := ⟨w.heap.size + 1 + 1, 0, none⟩) (by show _ ≤ w.heap.size + 1 + 1; omega) _).setCell (p := ⟨w.heap.size + 1 + 1, 1, none⟩) (by show _ ≤ w.heap.size + 1 + 1; omega) _)⟩

/-- The result is the fraction n / d, as its two numbers stand, and the error E. -/
def RRes (E : Int) (n d : Nat) (e : Ending) (W : World) : Prop := ∃ s c t c', e = .returned (.tuple #[.agg #[.slice s (M.dig n).length c, .slice t (M.dig d).length c'], .int .i64 E]) ∧ Row W s (M.dig n) c ∧ Row W t (M.dig d) c'
theorem RRes.none {E : Int} {W : World} : RRes E 0 0 (.returned (.tuple #[.agg #[.slice none 0 0, .slice none 0 0], .int .i64 E])) W := by
  exact ⟨Option.none, 0, Option.none, 0, by rw [M.dig_zero]; rfl, row_nil W, row_nil W⟩
theorem RatV.res {W : World} {v : Value} {n d : Nat} {E : Int} (h : RatV W v n d) : RRes E n d (.returned (.tuple #[v, .int .i64 E])) W := by
  obtain ⟨a, c, b, d', rfl, h1, h2⟩ := h
  exact ⟨a, c, b, d', rfl, h1, h2⟩
theorem vld_num {zs : List Int} (h : Vld zs) : ∃ x : Nat, zs = M.dig x ∧ (M.dig x).length ≤ 200 := by
  have hd : M.dig (M.val zs).toNat = zs := by
    rw [← M.trimL_dig h.lim]
    by_cases h0 : 0 < zs.length
    · refine M.trimL_last (.inr fun e => h.last h0 ?_)
      rw [List.getLast?_eq_getElem?] at e
      unfold M.el
      rw [e]; rfl
    · exact M.trimL_last (.inl (List.length_eq_zero_iff.1 (by omega)))
  exact ⟨(M.val zs).toNat, hd.symm, by rw [hd]; exact h.len⟩

/-- **Make** of any two lists: what the code and the reference return. -/
theorem make_both (zs ys : List Int) : ∃ (E : Int) (n d : Nat),
    (∀ (a b : Option Addr) (ca cb : Nat) (w : World), Row w a zs ca → Row w b ys cb → Calls Tryd.prog 51 #[.agg #[.slice a zs.length ca], .agg #[.slice b ys.length cb]] w fun e W' => RRes E n d e W' ∧ Below w.heap.size w W') ∧
    (∀ (a b : Option Addr) (ca cb : Nat) (w : World), Row w a zs ca → Row w b ys cb → Calls Tryd.prog 52 #[.agg #[.slice a zs.length ca], .agg #[.slice b ys.length cb]] w fun e W' => RRes E n d e W' ∧ Below w.heap.size w W') := by
  by_cases h : Vld zs ∧ Vld ys
  · obtain ⟨x, rfl, hx⟩ := vld_num h.1
    obtain ⟨y, rfl, hy⟩ := vld_num h.2
    rcases Nat.eq_zero_or_pos y with rfl | hy0
    · exact ⟨4, 0, 0, fun a b ca cb w hA hB => (make_zero a b ca cb x w hx hA hB).mono fun _ _ ⟨he, hb⟩ => ⟨he ▸ RRes.none, hb⟩, fun a b ca cb w hA hB => (rmake_zero a b ca cb x w hx hA hB).mono fun _ _ ⟨he, hb⟩ => ⟨he ▸ RRes.none, hb⟩⟩
    · exact ⟨0, _, _, fun a b ca cb w hA hB => (make_pos a b ca cb x y w hy0 hx hy hA hB).mono fun _ _ ⟨⟨_, he, hv⟩, hb⟩ => ⟨he ▸ hv.res, hb⟩, fun a b ca cb w hA hB => (rmake_pos a b ca cb x y w hy0 hx hy hA hB).mono fun _ _ ⟨⟨_, he, hv⟩, hb⟩ => ⟨he ▸ hv.val.res, hb⟩⟩
  · exact ⟨1, 0, 0, fun a b ca cb w hA hB => (make_bad a b ca cb zs ys w hA hB h).mono fun _ _ ⟨he, hb⟩ => ⟨he ▸ RRes.none, hb⟩, fun a b ca cb w hA hB => (rmake_bad a b ca cb zs ys w hA hB h).mono fun _ _ ⟨he, hb⟩ => ⟨he ▸ RRes.none, hb⟩⟩
end Go.Proofs.YtfaggdjoogpmmaaDoor
