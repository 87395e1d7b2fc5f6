/- Dice.OddFault. -/
import Derived.Test.YtdgkdoccllolpaaDoorPFS
import Derived.Test.YtdgkdoccllolpaaDoorGInt
namespace Go.Proofs.YtdgkdoccllolpaaDoor.P
open Go Go.RowKit Go.Shelf
open G
set_option maxRecDepth 100000 in
set_option maxHeartbeats 8000000 in
theorem oddfault_any (w : World) (dp : Nat) (a : Option Addr) (cap : Nat) (ts : List Int) (k : Nat) (kd : Int) (y : Nat → Int) (ch m v : Int) (hd : Bool) (hD : Dice w dp a cap ts k) :
    Calls Tryd.prog 15 #[.pointer (some ⟨dp, 0, none⟩), .agg #[.int .i64 kd, .int .i64 (y 0), .int .i64 (y 1), .int .i64 (y 2), .int .i64 (y 3), .int .i64 (y 4), .int .i64 (y 5), .int .i64 ch, .int .u8 m, .int .u8 v, .bool hd]] w fun e W => ∃ (kd : Int) (y : Nat → Int) (ch m v : Int) (hd : Bool), e = .returned (.agg #[.int .i64 kd, .int .i64 (y 0), .int .i64 (y 1), .int .i64 (y 2), .int .i64 (y 3), .int .i64 (y 4), .int .i64 (y 5), .int .i64 ch, .int .u8 m, .int .u8 v, .bool hd]) ∧ (∃ k', Dice W dp a cap ts k') ∧ w.grownBy W (some dp) := by
  have hf := (Flt.new w kd y ch m v hd).alloc (.cells #[.int .i64 0, .int .i64 0, .int .i64 0, .int .i64 0, .int .i64 0, .int .i64 0, .int .i64 0, .int .i64 0, .int .u8 0, .int .u8 0, .bool false] 26)
  have hr := Flt.new (w.alloc (.cells #[.int .i64 kd, .int .i64 (y 0), .int .i64 (y 1), .int .i64 (y 2), .int .i64 (y 3), .int .i64 (y 4), .int .i64 (y 5), .int .i64 ch, .int .u8 m, .int .u8 v, .bool hd] 26)) 0 z6 0 0 0 false
  have hdd := (hD.alloc (.cells #[.int .i64 kd, .int .i64 (y 0), .int .i64 (y 1), .int .i64 (y 2), .int .i64 (y 3), .int .i64 (y 4), .int .i64 (y 5), .int .i64 ch, .int .u8 m, .int .u8 v, .bool hd] 26)).alloc (.cells #[.int .i64 0, .int .i64 0, .int .i64 0, .int .i64 0, .int .i64 0, .int .i64 0, .int .i64 0, .int .i64 0, .int .u8 0, .int .u8 0, .bool false] 26)
  have hg := grown_alloc (grown_alloc (World.grownBy.refl w (some dp)) (.cells #[.int .i64 kd, .int .i64 (y 0), .int .i64 (y 1), .int .i64 (y 2), .int .i64 (y 3), .int .i64 (y 4), .int .i64 (y 5), .int .i64 ch, .int .u8 m, .int .u8 v, .bool hd] 26)) (.cells #[.int .i64 0, .int .i64 0, .int .i64 0, .int .i64 0, .int .i64 0, .int .i64 0, .int .i64 0, .int .i64 0, .int .u8 0, .int .u8 0, .bool false] 26)
  rw [World.size_alloc] at hr
  obtain ⟨w0, hw0⟩ : ∃ w0, (w.alloc (.cells #[.int .i64 kd, .int .i64 (y 0), .int .i64 (y 1), .int .i64 (y 2), .int .i64 (y 3), .int .i64 (y 4), .int .i64 (y 5), .int .i64 ch, .int .u8 m, .int .u8 v, .bool hd] 26)).alloc (.cells #[.int .i64 0, .int .i64 0, .int .i64 0, .int .i64 0, .int .i64 0, .int .i64 0, .int .i64 0, .int .i64 0, .int .u8 0, .int .u8 0, .bool false] 26) = w0 := ⟨_, rfl⟩
  have hr' : Flt w0 (w.heap.size + 1) 0 z6 0 0 0 false := by rw [← hw0]; exact hr
  rw [hw0] at hf hdd hg
  have HS := Lib.hid (FS.mk (w := w) ⟨k, hdd⟩ hg hr' hD.lt hD.far (Nat.le_succ _))
  obtain ⟨p, hp⟩ : ∃ p, w.heap.size = p := ⟨_, rfl⟩
  have hdp : dp < p := by rw [← hp]; exact hD.lt
  rw [hp] at hf
  have HF := Lib.hid hf
  have HNE := Lib.hid (show p ≠ p + 1 from Nat.ne_of_lt (Nat.lt_succ_self p))
  have HPS := Lib.hid (show w.heap.size ≤ p from Nat.le_of_eq hp)
  clear hf hr hr' hdd hg hD
  go_enter Tryd.func15, Tryd.ntmps15
  go_wp2_with fail
  refine (next_fs 7 7 rfl (by decide) (by decide) HS.out).mono ?_
  rintro e w1 ⟨u, hu, rfl, hs1, hk1, hks1⟩
  have HS1 := Lib.hid hs1
  have HF1 := Lib.hid (hk1 _ _ _ _ _ _ _ (Nat.ne_of_gt hdp) HF.out)
  rw [hp] at HS1
  clear hs1 hk1 hks1 HS HF
  by_cases hu0 : u = 0
  · subst hu0
    obtain ⟨f0, f1, f2, f3, f4, f5, f6, f7, f8, f9, f10⟩ := HF1.out.all
    obtain ⟨q0, q1, q2, q3, q4, q5, q6, q7, q8, q9, q10⟩ := HF1.out.frees
    go_wp2_with fail
    refine (next_fs 8 8 rfl (by decide) (by decide) HS1.out).mono ?_
    rintro e w2 ⟨v2, hv2, rfl, hs2, hk2, hks2⟩
    have HS2 := Lib.hid hs2
    have HF2 := Lib.hid (hk2 _ _ _ _ _ _ _ (Nat.ne_of_gt hdp) HF1.out)
    clear f0 f1 f2 f3 f4 f5 f6 f7 f8 f9 f10 q0 q1 q2 q3 q4 q5 q6 q7 q8 q9 q10
    obtain ⟨f0, f1, f2, f3, f4, f5, f6, f7, f8, f9, f10⟩ := HF2.out.all
    obtain ⟨q0, q1, q2, q3, q4, q5, q6, q7, q8, q9, q10⟩ := HF2.out.frees
    clear hs2 hk2 hks2 HF1 HS1
    have HSb := Lib.hid (HS2.out.set (q := ⟨p, 0, none⟩) HPS.out HNE.out (.int .i64 (v2 : Int)))
    clear HS2
    have hall := (put11_flt HSb.out.res ((v2 : Int)) (yv (y 0) (y 1) (y 2) (y 3) (y 4) (y 5)) (ch) (m) (v) (hd)).all
    have hfin := HSb.out.fin ((v2 : Int)) (yv (y 0) (y 1) (y 2) (y 3) (y 4) (y 5)) (ch) (m) (v) (hd)
    obtain ⟨r0, r1, r2, r3, r4, r5, r6, r7, r8, r9, r10⟩ := HSb.out.res.all
    obtain ⟨t0, t1, t2, t3, t4, t5, t6, t7, t8, t9, t10⟩ := HSb.out.res.frees
    simp only [put11, yv] at hall hfin
    obtain ⟨hp0, hp1, hp2, hp3, hp4, hp5, hp6, hp7, hp8, hp9, hp10⟩ := hall
    have HFIN := Lib.hid hfin
    clear hfin
    go_wp2_with fail
    exact bodyPost_ret (v := .agg #[.int .i64 ((v2 : Int)), .int .i64 (y 0), .int .i64 (y 1), .int .i64 (y 2), .int .i64 (y 3), .int .i64 (y 4), .int .i64 (y 5), .int .i64 (ch), .int .u8 (m), .int .u8 (v), .bool (hd)]) (by simp [results, Tryd.results15, go_sem, hp0, hp1, hp2, hp3, hp4, hp5, hp6, hp7, hp8, hp9, hp10]) rfl ⟨(v2 : Int), (yv (y 0) (y 1) (y 2) (y 3) (y 4) (y 5)), ch, m, v, hd, rfl, HFIN.out.1, HFIN.out.2⟩
  by_cases hu1 : u = 1
  · subst hu1
    have hbx := Box.new w1 3 [.int .i64 (-1), .int .i64 0, .int .i64 8, .int .i64 40]
    have hfa := HF1.out.alloc (.cells #[.int .i64 (-1), .int .i64 0, .int .i64 8, .int .i64 40] 3)
    have hsa := HS1.out.alloc (.cells #[.int .i64 (-1), .int .i64 0, .int .i64 8, .int .i64 40] 3)
    have hgd : w1.heap.size ≠ dp := by have := HS1.out.dice.elim (fun _ h => h.lt); omega
    obtain ⟨wa, hwa⟩ : ∃ wa, w1.alloc (.cells #[.int .i64 (-1), .int .i64 0, .int .i64 8, .int .i64 40] 3) = wa := ⟨_, rfl⟩
    have hbx' : Box wa w1.heap.size 3 [.int .i64 (-1), .int .i64 0, .int .i64 8, .int .i64 40] := by rw [← hwa]; exact hbx
    rw [hwa] at hfa hsa
    have HFA := Lib.hid hfa
    have HSA := Lib.hid hsa
    have HBX := Lib.hid hbx'
    clear hbx hbx' hfa hsa HF1 HS1
    go_wp2_with fail
    refine (next_fs 4 4 rfl (by decide) (by decide) HSA.out).mono ?_
    rintro e w2 ⟨v2, hv2, rfl, hs2, hk2, hks2⟩
    have HS2 := Lib.hid hs2
    have HF2 := Lib.hid (hk2 _ _ _ _ _ _ _ (Nat.ne_of_gt hdp) HFA.out)
    have hbx2 := hks2 _ _ _ hgd HBX.out
    obtain ⟨z, hz⟩ : ∃ z, w2.cell? ⟨w1.heap.size, v2, none⟩ = some (.int .i64 z) := by
      obtain rfl | rfl | rfl | rfl : v2 = 0 ∨ v2 = 1 ∨ v2 = 2 ∨ v2 = 3 := by omega
      · exact ⟨_, Box.cell hbx2 0 rfl⟩
      · exact ⟨_, Box.cell hbx2 1 rfl⟩
      · exact ⟨_, Box.cell hbx2 2 rfl⟩
      · exact ⟨_, Box.cell hbx2 3 rfl⟩
    have hv4 : (v2 : Int) < 4 := by omega
    clear hs2 hk2 hks2 HFA HSA HBX hbx2
    obtain ⟨f0, f1, f2, f3, f4, f5, f6, f7, f8, f9, f10⟩ := HF2.out.all
    obtain ⟨q0, q1, q2, q3, q4, q5, q6, q7, q8, q9, q10⟩ := HF2.out.frees
    have HSb := Lib.hid (HS2.out.set (q := ⟨p, 7, none⟩) HPS.out HNE.out (.int .i64 z))
    clear HS2
    have hall := (put11_flt HSb.out.res (kd) (yv (y 0) (y 1) (y 2) (y 3) (y 4) (y 5)) (z) (m) (v) (hd)).all
    have hfin := HSb.out.fin (kd) (yv (y 0) (y 1) (y 2) (y 3) (y 4) (y 5)) (z) (m) (v) (hd)
    obtain ⟨r0, r1, r2, r3, r4, r5, r6, r7, r8, r9, r10⟩ := HSb.out.res.all
    obtain ⟨t0, t1, t2, t3, t4, t5, t6, t7, t8, t9, t10⟩ := HSb.out.res.frees
    simp only [put11, yv] at hall hfin
    obtain ⟨hp0, hp1, hp2, hp3, hp4, hp5, hp6, hp7, hp8, hp9, hp10⟩ := hall
    have HFIN := Lib.hid hfin
    clear hfin
    go_wp2_with fail
    exact bodyPost_ret (v := .agg #[.int .i64 (kd), .int .i64 (y 0), .int .i64 (y 1), .int .i64 (y 2), .int .i64 (y 3), .int .i64 (y 4), .int .i64 (y 5), .int .i64 (z), .int .u8 (m), .int .u8 (v), .bool (hd)]) (by simp [results, Tryd.results15, go_sem, hp0, hp1, hp2, hp3, hp4, hp5, hp6, hp7, hp8, hp9, hp10]) rfl ⟨kd, (yv (y 0) (y 1) (y 2) (y 3) (y 4) (y 5)), z, m, v, hd, rfl, HFIN.out.1, HFIN.out.2⟩
  by_cases hu2 : u = 2
  · subst hu2
    obtain ⟨f0, f1, f2, f3, f4, f5, f6, f7, f8, f9, f10⟩ := HF1.out.all
    obtain ⟨q0, q1, q2, q3, q4, q5, q6, q7, q8, q9, q10⟩ := HF1.out.frees
    have HSb := Lib.hid (HS1.out.set (q := ⟨p, 8, none⟩) HPS.out HNE.out (.int .u8 0))
    clear HS1
    have hall := (put11_flt HSb.out.res (kd) (yv (y 0) (y 1) (y 2) (y 3) (y 4) (y 5)) (ch) (0) (v) (hd)).all
    have hfin := HSb.out.fin (kd) (yv (y 0) (y 1) (y 2) (y 3) (y 4) (y 5)) (ch) (0) (v) (hd)
    obtain ⟨r0, r1, r2, r3, r4, r5, r6, r7, r8, r9, r10⟩ := HSb.out.res.all
    obtain ⟨t0, t1, t2, t3, t4, t5, t6, t7, t8, t9, t10⟩ := HSb.out.res.frees
    simp only [put11, yv] at hall hfin
    obtain ⟨hp0, hp1, hp2, hp3, hp4, hp5, hp6, hp7, hp8, hp9, hp10⟩ := hall
    have HFIN := Lib.hid hfin
    clear hfin
    go_wp2_with fail
    exact bodyPost_ret (v := .agg #[.int .i64 (kd), .int .i64 (y 0), .int .i64 (y 1), .int .i64 (y 2), .int .i64 (y 3), .int .i64 (y 4), .int .i64 (y 5), .int .i64 (ch), .int .u8 (0), .int .u8 (v), .bool (hd)]) (by simp [results, Tryd.results15, go_sem, hp0, hp1, hp2, hp3, hp4, hp5, hp6, hp7, hp8, hp9, hp10]) rfl ⟨kd, (yv (y 0) (y 1) (y 2) (y 3) (y 4) (y 5)), ch, 0, v, hd, rfl, HFIN.out.1, HFIN.out.2⟩
  by_cases hu3 : u = 3
  · subst hu3
    obtain ⟨f0, f1, f2, f3, f4, f5, f6, f7, f8, f9, f10⟩ := HF1.out.all
    obtain ⟨q0, q1, q2, q3, q4, q5, q6, q7, q8, q9, q10⟩ := HF1.out.frees
    go_wp2_with fail
    refine (next_fs 256 256 rfl (by decide) (by decide) HS1.out).mono ?_
    rintro e w2 ⟨v2, hv2, rfl, hs2, hk2, hks2⟩
    have HS2 := Lib.hid hs2
    have HF2 := Lib.hid (hk2 _ _ _ _ _ _ _ (Nat.ne_of_gt hdp) HF1.out)
    clear f0 f1 f2 f3 f4 f5 f6 f7 f8 f9 f10 q0 q1 q2 q3 q4 q5 q6 q7 q8 q9 q10
    obtain ⟨f0, f1, f2, f3, f4, f5, f6, f7, f8, f9, f10⟩ := HF2.out.all
    obtain ⟨q0, q1, q2, q3, q4, q5, q6, q7, q8, q9, q10⟩ := HF2.out.frees
    clear hs2 hk2 hks2 HF1 HS1
    have hcv : IntKind.u8.wrap (v2 : Int) = (v2 : Int) := by rw [IntKind.wrap_u8]; omega
    have HSb := Lib.hid (HS2.out.set (q := ⟨p, 9, none⟩) HPS.out HNE.out (.int .u8 (v2 : Int)))
    clear HS2
    have hall := (put11_flt HSb.out.res (kd) (yv (y 0) (y 1) (y 2) (y 3) (y 4) (y 5)) (ch) (m) ((v2 : Int)) (hd)).all
    have hfin := HSb.out.fin (kd) (yv (y 0) (y 1) (y 2) (y 3) (y 4) (y 5)) (ch) (m) ((v2 : Int)) (hd)
    obtain ⟨r0, r1, r2, r3, r4, r5, r6, r7, r8, r9, r10⟩ := HSb.out.res.all
    obtain ⟨t0, t1, t2, t3, t4, t5, t6, t7, t8, t9, t10⟩ := HSb.out.res.frees
    simp only [put11, yv] at hall hfin
    obtain ⟨hp0, hp1, hp2, hp3, hp4, hp5, hp6, hp7, hp8, hp9, hp10⟩ := hall
    have HFIN := Lib.hid hfin
    clear hfin
    go_wp2_with fail
    exact bodyPost_ret (v := .agg #[.int .i64 (kd), .int .i64 (y 0), .int .i64 (y 1), .int .i64 (y 2), .int .i64 (y 3), .int .i64 (y 4), .int .i64 (y 5), .int .i64 (ch), .int .u8 (m), .int .u8 ((v2 : Int)), .bool (hd)]) (by simp [results, Tryd.results15, go_sem, hp0, hp1, hp2, hp3, hp4, hp5, hp6, hp7, hp8, hp9, hp10]) rfl ⟨kd, (yv (y 0) (y 1) (y 2) (y 3) (y 4) (y 5)), ch, m, (v2 : Int), hd, rfl, HFIN.out.1, HFIN.out.2⟩
  by_cases hu4 : u = 4
  · subst hu4
    obtain ⟨f0, f1, f2, f3, f4, f5, f6, f7, f8, f9, f10⟩ := HF1.out.all
    obtain ⟨q0, q1, q2, q3, q4, q5, q6, q7, q8, q9, q10⟩ := HF1.out.frees
    have HSb := Lib.hid (HS1.out.set (q := ⟨p, 10, none⟩) HPS.out HNE.out (.bool (!hd)))
    clear HS1
    have hall := (put11_flt HSb.out.res (kd) (yv (y 0) (y 1) (y 2) (y 3) (y 4) (y 5)) (ch) (m) (v) (!hd)).all
    have hfin := HSb.out.fin (kd) (yv (y 0) (y 1) (y 2) (y 3) (y 4) (y 5)) (ch) (m) (v) (!hd)
    obtain ⟨r0, r1, r2, r3, r4, r5, r6, r7, r8, r9, r10⟩ := HSb.out.res.all
    obtain ⟨t0, t1, t2, t3, t4, t5, t6, t7, t8, t9, t10⟩ := HSb.out.res.frees
    simp only [put11, yv] at hall hfin
    obtain ⟨hp0, hp1, hp2, hp3, hp4, hp5, hp6, hp7, hp8, hp9, hp10⟩ := hall
    have HFIN := Lib.hid hfin
    clear hfin
    go_wp2_with fail
    exact bodyPost_ret (v := .agg #[.int .i64 (kd), .int .i64 (y 0), .int .i64 (y 1), .int .i64 (y 2), .int .i64 (y 3), .int .i64 (y 4), .int .i64 (y 5), .int .i64 (ch), .int .u8 (m), .int .u8 (v), .bool (!hd)]) (by simp [results, Tryd.results15, go_sem, hp0, hp1, hp2, hp3, hp4, hp5, hp6, hp7, hp8, hp9, hp10]) rfl ⟨kd, (yv (y 0) (y 1) (y 2) (y 3) (y 4) (y 5)), ch, m, v, !hd, rfl, HFIN.out.1, HFIN.out.2⟩
  by_cases hu5 : u = 5
  · subst hu5
    obtain ⟨f0, f1, f2, f3, f4, f5, f6, f7, f8, f9, f10⟩ := HF1.out.all
    obtain ⟨q0, q1, q2, q3, q4, q5, q6, q7, q8, q9, q10⟩ := HF1.out.frees
    obtain ⟨z5, hz5⟩ : ∃ z5, IntKind.i64.wrap (y 5 + 1) = z5 := ⟨_, rfl⟩
    have HSb := Lib.hid (HS1.out.set (q := ⟨p, 6, none⟩) HPS.out HNE.out (.int .i64 z5))
    clear HS1
    have hall := (put11_flt HSb.out.res (kd) (yv (y 0) (y 1) (y 2) (y 3) (y 4) (z5)) (ch) (m) (v) (hd)).all
    have hfin := HSb.out.fin (kd) (yv (y 0) (y 1) (y 2) (y 3) (y 4) (z5)) (ch) (m) (v) (hd)
    obtain ⟨r0, r1, r2, r3, r4, r5, r6, r7, r8, r9, r10⟩ := HSb.out.res.all
    obtain ⟨t0, t1, t2, t3, t4, t5, t6, t7, t8, t9, t10⟩ := HSb.out.res.frees
    simp only [put11, yv] at hall hfin
    obtain ⟨hp0, hp1, hp2, hp3, hp4, hp5, hp6, hp7, hp8, hp9, hp10⟩ := hall
    have HFIN := Lib.hid hfin
    clear hfin
    go_wp2_with fail
    exact bodyPost_ret (v := .agg #[.int .i64 (kd), .int .i64 (y 0), .int .i64 (y 1), .int .i64 (y 2), .int .i64 (y 3), .int .i64 (y 4), .int .i64 (z5), .int .i64 (ch), .int .u8 (m), .int .u8 (v), .bool (hd)]) (by simp [results, Tryd.results15, go_sem, hp0, hp1, hp2, hp3, hp4, hp5, hp6, hp7, hp8, hp9, hp10]) rfl ⟨kd, (yv (y 0) (y 1) (y 2) (y 3) (y 4) (z5)), ch, m, v, hd, rfl, HFIN.out.1, HFIN.out.2⟩
  · have hu' : u = 6 := by omega
    subst hu'
    obtain ⟨f0, f1, f2, f3, f4, f5, f6, f7, f8, f9, f10⟩ := HF1.out.all
    obtain ⟨q0, q1, q2, q3, q4, q5, q6, q7, q8, q9, q10⟩ := HF1.out.frees
    go_wp2_with fail
    refine (next_fs 3 3 rfl (by decide) (by decide) HS1.out).mono ?_
    rintro e w2 ⟨v2, hv2, rfl, hs2, hk2, hks2⟩
    have HS2 := Lib.hid hs2
    have HF2 := Lib.hid (hk2 _ _ _ _ _ _ _ (Nat.ne_of_gt hdp) HF1.out)
    clear f0 f1 f2 f3 f4 f5 f6 f7 f8 f9 f10 q0 q1 q2 q3 q4 q5 q6 q7 q8 q9 q10
    obtain ⟨f0, f1, f2, f3, f4, f5, f6, f7, f8, f9, f10⟩ := HF2.out.all
    obtain ⟨q0, q1, q2, q3, q4, q5, q6, q7, q8, q9, q10⟩ := HF2.out.frees
    clear hs2 hk2 hks2 HF1 HS1
    have hcv : IntKind.i64.wrap ((v2 : Int) - 1) = (v2 : Int) - 1 := by rw [IntKind.wrap_i64]; omega
    have HSb := Lib.hid (HS2.out.set (q := ⟨p, 5, none⟩) HPS.out HNE.out (.int .i64 ((v2 : Int) - 1)))
    clear HS2
    have hall := (put11_flt HSb.out.res (kd) (yv (y 0) (y 1) (y 2) (y 3) ((v2 : Int) - 1) (y 5)) (ch) (m) (v) (hd)).all
    have hfin := HSb.out.fin (kd) (yv (y 0) (y 1) (y 2) (y 3) ((v2 : Int) - 1) (y 5)) (ch) (m) (v) (hd)
    obtain ⟨r0, r1, r2, r3, r4, r5, r6, r7, r8, r9, r10⟩ := HSb.out.res.all
    obtain ⟨t0, t1, t2, t3, t4, t5, t6, t7, t8, t9, t10⟩ := HSb.out.res.frees
    simp only [put11, yv] at hall hfin
    obtain ⟨hp0, hp1, hp2, hp3, hp4, hp5, hp6, hp7, hp8, hp9, hp10⟩ := hall
    have HFIN := Lib.hid hfin
    clear hfin
    go_wp2_with fail
    exact bodyPost_ret (v := .agg #[.int .i64 (kd), .int .i64 (y 0), .int .i64 (y 1), .int .i64 (y 2), .int .i64 (y 3), .int .i64 ((v2 : Int) - 1), .int .i64 (y 5), .int .i64 (ch), .int .u8 (m), .int .u8 (v), .bool (hd)]) (by simp [results, Tryd.results15, go_sem, hp0, hp1, hp2, hp3, hp4, hp5, hp6, hp7, hp8, hp9, hp10]) rfl ⟨kd, (yv (y 0) (y 1) (y 2) (y 3) ((v2 : Int) - 1) (y 5)), ch, m, v, hd, rfl, HFIN.out.1, HFIN.out.2⟩
end Go.Proofs.YtdgkdoccllolpaaDoor.P
