/- law05.agree. -/
import Derived.Test.YtgaanojfjaifhaaBRef7
import Derived.Test.YtgaanojfjaifhaaBRef8
import Derived.Test.YtgaanojfjaifhaaBRef10
import Derived.Test.YtgaanojfjaifhaaBBox
namespace Go.Proofs.Ytgaanojfjaifhaa.B
open Go Go.RowKit Go.Shelf
open BM (bt St)

theorem mul_any (C D : Int) (a b : Option Addr) (ca cb : Nat) (R T : List V) (w : World) (hA : Row w a R ca) (hB : Row w b T cb) :
    Calls Try.prog 21 #[.agg #[.int .i64 C, .slice a R.length ca], .agg #[.int .i64 D, .slice b T.length cb]] w fun e W => (∃ v, e = .returned (.tuple #[v, .int .i64 (mulE C D R T)]) ∧ MatR w.heap.size W v (mulC C D R T) (mulR C D R T)) ∧ Below w.heap.size w W := by
  cases h : validB C R && validB D T with
  | false =>
    have e0 : mulE C D R T = 1 := by unfold mulE; rw [h]; rfl
    have e1 : mulC C D R T = 0 := by unfold mulC; rw [e0]; rfl
    have e2 : mulR C D R T = [] := by unfold mulR; rw [e0]; rfl
    rw [e0, e1, e2]
    refine (mul_bad C D a b ca cb R T w hA hB h).mono ?_
    rintro e W ⟨rfl, hb⟩
    exact ⟨⟨_, rfl, MatR.none _ _⟩, hb⟩
  | true =>
    rw [Bool.and_eq_true] at h
    obtain ⟨C', rfl, hM⟩ := MV.of h.1
    obtain ⟨D', rfl, hN⟩ := MV.of h.2
    exact mul_good C' D' a b ca cb R T w hA hB hM hN
theorem rmul_any (C D : Int) (a b : Option Addr) (ca cb : Nat) (R T : List V) (w : World) (hA : Row w a R ca) (hB : Row w b T cb) :
    Calls Try.prog 22 #[.agg #[.int .i64 C, .slice a R.length ca], .agg #[.int .i64 D, .slice b T.length cb]] w fun e W => (∃ v, e = .returned (.tuple #[v, .int .i64 (mulE C D R T)]) ∧ MatR w.heap.size W v (mulC C D R T) (mulR C D R T)) ∧ Below w.heap.size w W := by
  cases h : validB C R && validB D T with
  | false =>
    have e0 : mulE C D R T = 1 := by unfold mulE; rw [h]; rfl
    have e1 : mulC C D R T = 0 := by unfold mulC; rw [e0]; rfl
    have e2 : mulR C D R T = [] := by unfold mulR; rw [e0]; rfl
    rw [e0, e1, e2]
    refine (rmul_bad C D a b ca cb R T w hA hB h).mono ?_
    rintro e W ⟨rfl, hb⟩
    exact ⟨⟨_, rfl, MatR.none _ _⟩, hb⟩
  | true =>
    rw [Bool.and_eq_true] at h
    obtain ⟨C', rfl, hM⟩ := MV.of h.1
    obtain ⟨D', rfl, hN⟩ := MV.of h.2
    exact rmul_good C' D' a b ca cb R T w hA hB hM hN
theorem BX.stored {W : World} {p q : Nat} {C C' D : Int} {R T : List V} {a b a' : Option Addr} {c d n' c' : Nat} (h : BX W p C R a c) (hq : BX W q D T b d) (hn : p ≠ q) :
    BX ((W.setCell ⟨q, 0, none⟩ (.int .i64 C')).setCell ⟨q, 1, none⟩ (.slice a' n' c')) p C R a c := by
  have e1 : (W.setCell ⟨q, 0, none⟩ (.int .i64 C')).cell? ⟨q, 1, none⟩ = some (.slice b T.length d) := (World.cell?_setCell_other _ _ _ _ (by intro e; cases e)).trans hq.box.c1
  exact ⟨(h.box.other (show q ≠ p from fun e => hn e.symm) _).other (show q ≠ p from fun e => hn e.symm) _, (h.row.storedV hq.box.c0 (fun x => by intro e; cases e) _).storedV e1 (fun x => by intro e; cases e) _⟩
theorem BX.put {W : World} {q : Nat} {C' D : Int} {T U : List V} {b a' : Option Addr} {d c' : Nat} (hq : BX W q D T b d) (hr : Row W a' U c') :
    BX ((W.setCell ⟨q, 0, none⟩ (.int .i64 C')).setCell ⟨q, 1, none⟩ (.slice a' U.length c')) q C' U a' c' := by
  have e1 : (W.setCell ⟨q, 0, none⟩ (.int .i64 C')).cell? ⟨q, 1, none⟩ = some (.slice b T.length d) := (World.cell?_setCell_other _ _ _ _ (by intro e; cases e)).trans hq.box.c1
  exact ⟨hq.box.set, (hr.storedV hq.box.c0 (fun x => by intro e; cases e) _).storedV e1 (fun x => by intro e; cases e) _⟩
set_option maxRecDepth 100000 in
set_option maxHeartbeats 4000000 in
/-- law05.agree -/
theorem agree_any (C D : Int) (a b : Option Addr) (ca cb : Nat) (R T : List V) (v : V) (w : World) (hA : Row w a R ca) (hB : Row w b T cb) :
    Calls Try.prog 8 #[.agg #[.int .i64 C, .slice a R.length ca], .agg #[.int .i64 D, .slice b T.length cb], .int .u64 (v.toNat : Int)] w fun e W => e = .returned (.bool true) ∧ Below w.heap.size w W := by
  obtain ⟨AV, hAV⟩ : ∃ x, applyV C R v = x := ⟨_, rfl⟩
  obtain ⟨AE, hAE⟩ : ∃ x, applyE C R v = x := ⟨_, rfl⟩
  obtain ⟨ME, hME⟩ : ∃ x, mulE C D R T = x := ⟨_, rfl⟩
  obtain ⟨MC, hMC⟩ : ∃ x, mulC C D R T = x := ⟨_, rfl⟩
  obtain ⟨ML, hML⟩ : ∃ x, mulR C D R T = x := ⟨_, rfl⟩
  obtain ⟨TE, hTE⟩ : ∃ x, turnE C R = x := ⟨_, rfl⟩
  obtain ⟨TC, hTC⟩ : ∃ x, turnC C R = x := ⟨_, rfl⟩
  obtain ⟨TL, hTL⟩ : ∃ x, turnR C R = x := ⟨_, rfl⟩
  obtain ⟨IE, hIE⟩ : ∃ x, invE C R = x := ⟨_, rfl⟩
  obtain ⟨IC, hIC⟩ : ∃ x, invC C R = x := ⟨_, rfl⟩
  obtain ⟨IL, hIL⟩ : ∃ x, invR C R = x := ⟨_, rfl⟩
  obtain ⟨SV, hSV⟩ : ∃ x, solveV C R v = x := ⟨_, rfl⟩
  obtain ⟨SE, hSE⟩ : ∃ x, solveE C R v = x := ⟨_, rfl⟩
  obtain ⟨KE, hKE⟩ : ∃ x, kernE C R = x := ⟨_, rfl⟩
  obtain ⟨KL, hKL⟩ : ∃ x, kernL C R = x := ⟨_, rfl⟩
  obtain ⟨NR, hNR⟩ : ∃ x, rankN C R = x := ⟨_, rfl⟩
  obtain ⟨VB, hVB⟩ : ∃ x, validB C R = x := ⟨_, rfl⟩
  have cA : ∀ W : World, Row W a R ca → Calls Try.prog 19 #[.agg #[.int .i64 C, .slice a R.length ca], .int .u64 (v.toNat : Int)] W (fun e W' => e = .returned (.tuple #[.int .u64 (AV.toNat : Int), .int .i64 AE]) ∧ Below W.heap.size W W') := fun W h => by have := apply_any C a ca R v W h; rw [hAV, hAE] at this; exact this
  have cM : ∀ W : World, Row W a R ca → Row W b T cb → Calls Try.prog 21 #[.agg #[.int .i64 C, .slice a R.length ca], .agg #[.int .i64 D, .slice b T.length cb]] W (fun e W' => (∃ v, e = .returned (.tuple #[v, .int .i64 ME]) ∧ MatR W.heap.size W' v MC ML) ∧ Below W.heap.size W W') := fun W h h2 => by have := mul_any C D a b ca cb R T W h h2; rw [hME, hMC, hML] at this; exact this
  have cT : ∀ W : World, Row W a R ca → Calls Try.prog 23 #[.agg #[.int .i64 C, .slice a R.length ca]] W (fun e W' => (∃ v, e = .returned (.tuple #[v, .int .i64 TE]) ∧ MatR W.heap.size W' v TC TL) ∧ Below W.heap.size W W') := fun W h => by have := turn_any C a ca R W h; rw [hTE, hTC, hTL] at this; exact this
  have cI : ∀ W : World, Row W a R ca → Calls Try.prog 15 #[.agg #[.int .i64 C, .slice a R.length ca]] W (fun e W' => (∃ v, e = .returned (.tuple #[v, .int .i64 IE]) ∧ MatR W.heap.size W' v IC IL) ∧ Below W.heap.size W W') := fun W h => by have := inverse_any C a ca R W h; rw [hIE, hIC, hIL] at this; exact this
  have cS : ∀ W : World, Row W a R ca → Calls Try.prog 29 #[.agg #[.int .i64 C, .slice a R.length ca], .int .u64 (v.toNat : Int)] W (fun e W' => e = .returned (.tuple #[.int .u64 (SV.toNat : Int), .int .i64 SE]) ∧ Below W.heap.size W W') := fun W h => by have := solve_any C a ca R v W h; rw [hSV, hSE] at this; exact this
  have cK : ∀ W : World, Row W a R ca → Calls Try.prog 31 #[.agg #[.int .i64 C, .slice a R.length ca]] W (fun e W' => (∃ v, e = .returned (.tuple #[v, .int .i64 KE]) ∧ ListR W.heap.size W' v KL) ∧ Below W.heap.size W W') := fun W h => by have := kernel_any C a ca R W h; rw [hKE, hKL] at this; exact this
  have cN : ∀ W : World, Row W a R ca → Calls Try.prog 16 #[.agg #[.int .i64 C, .slice a R.length ca]] W (fun e W' => e = .returned (.int .i64 (NR : Int)) ∧ Below W.heap.size W W') := fun W h => by have := rank_any C a ca R W h; rw [hNR] at this; exact this
  have cV : ∀ W : World, Row W a R ca → Calls Try.prog 26 #[.agg #[.int .i64 C, .slice a R.length ca]] W (fun e W' => e = .returned (.bool VB) ∧ Below W.heap.size W W') := fun W h => by have := valid_any C a ca R W h; rw [hVB] at this; exact this
  have rA : ∀ W : World, Row W a R ca → Calls Try.prog 20 #[.agg #[.int .i64 C, .slice a R.length ca], .int .u64 (v.toNat : Int)] W (fun e W' => e = .returned (.tuple #[.int .u64 (AV.toNat : Int), .int .i64 AE]) ∧ Below W.heap.size W W') := fun W h => by have := rapply_any C a ca R v W h; rw [hAV, hAE] at this; exact this
  have rM : ∀ W : World, Row W a R ca → Row W b T cb → Calls Try.prog 22 #[.agg #[.int .i64 C, .slice a R.length ca], .agg #[.int .i64 D, .slice b T.length cb]] W (fun e W' => (∃ v, e = .returned (.tuple #[v, .int .i64 ME]) ∧ MatR W.heap.size W' v MC ML) ∧ Below W.heap.size W W') := fun W h h2 => by have := rmul_any C D a b ca cb R T W h h2; rw [hME, hMC, hML] at this; exact this
  have rT : ∀ W : World, Row W a R ca → Calls Try.prog 24 #[.agg #[.int .i64 C, .slice a R.length ca]] W (fun e W' => (∃ v, e = .returned (.tuple #[v, .int .i64 TE]) ∧ MatR W.heap.size W' v TC TL) ∧ Below W.heap.size W W') := fun W h => by have := rturn_any C a ca R W h; rw [hTE, hTC, hTL] at this; exact this
  have rI : ∀ W : World, Row W a R ca → Calls Try.prog 28 #[.agg #[.int .i64 C, .slice a R.length ca]] W (fun e W' => (∃ v, e = .returned (.tuple #[v, .int .i64 IE]) ∧ MatR W.heap.size W' v IC IL) ∧ Below W.heap.size W W') := fun W h => by have := rinverse_any C a ca R W h; rw [hIE, hIC, hIL] at this; exact this
  have rS : ∀ W : World, Row W a R ca → Calls Try.prog 30 #[.agg #[.int .i64 C, .slice a R.length ca], .int .u64 (v.toNat : Int)] W (fun e W' => e = .returned (.tuple #[.int .u64 (SV.toNat : Int), .int .i64 SE]) ∧ Below W.heap.size W W') := fun W h => by have := rsolve_any C a ca R v W h; rw [hSV, hSE] at this; exact this
  have rK : ∀ W : World, Row W a R ca → Calls Try.prog 32 #[.agg #[.int .i64 C, .slice a R.length ca]] W (fun e W' => (∃ v, e = .returned (.tuple #[v, .int .i64 KE]) ∧ ListR W.heap.size W' v KL) ∧ Below W.heap.size W W') := fun W h => by have := rkernel_any C a ca R W h; rw [hKE, hKL] at this; exact this
  have rN : ∀ W : World, Row W a R ca → Calls Try.prog 25 #[.agg #[.int .i64 C, .slice a R.length ca]] W (fun e W' => e = .returned (.int .i64 (NR : Int)) ∧ Below W.heap.size W W') := fun W h => by have := rrank_any C a ca R W h; rw [hNR] at this; exact this
  have rV : ∀ W : World, Row W a R ca → Calls Try.prog 27 #[.agg #[.int .i64 C, .slice a R.length ca]] W (fun e W' => e = .returned (.bool VB) ∧ Below W.heap.size W W') := fun W h => by have := rvalid_any C a ca R W h; rw [hVB] at this; exact this
  have HcA := Lib.hid cA
  have HcM := Lib.hid cM
  have HcT := Lib.hid cT
  have HcI := Lib.hid cI
  have HcS := Lib.hid cS
  have HcK := Lib.hid cK
  have HcN := Lib.hid cN
  have HcV := Lib.hid cV
  have HrA := Lib.hid rA
  have HrM := Lib.hid rM
  have HrT := Lib.hid rT
  have HrI := Lib.hid rI
  have HrS := Lib.hid rS
  have HrK := Lib.hid rK
  have HrN := Lib.hid rN
  have HrV := Lib.hid rV
  clear hAV hAE hME hMC hML hTE hTC hTL hIE hIC hIL hSV hSE hKE hKL hNR hVB cA cM cT cI cS cK cN cV rA rM rT rI rS rK rN rV
  have hbA := (BX.new (C := C) hA)
  have hbB := (BX.new (C := D) (hB.alloc (.cells #[.int .i64 C, .slice a R.length ca] 24)))
  have hbA2 := hbA.below ((Below.refl _ _).alloc (Nat.le_refl _) (.cells #[.int .i64 D, .slice b T.length cb] 24))
  have hbw := ((Below.refl w.heap.size w).alloc (Nat.le_refl _) (.cells #[.int .i64 C, .slice a R.length ca] 24)).alloc (by simp) (.cells #[.int .i64 D, .slice b T.length cb] 24)
  obtain ⟨u0, hu0⟩ : ∃ u0, (w.alloc (.cells #[.int .i64 C, .slice a R.length ca] 24)).alloc (.cells #[.int .i64 D, .slice b T.length cb] 24) = u0 := ⟨_, rfl⟩
  rw [hu0] at hbA2 hbB hbw
  have hsz : w.heap.size + 1 < u0.heap.size := by rw [← hu0]; simp
  rw [World.size_alloc] at hbB
  have XA := Lib.hid hbA2
  have XB := Lib.hid hbB
  have HW := Lib.hid hbw
  have a0 := hbA2.box.c0
  have a1 := hbA2.box.c1
  have b0 := hbB.box.c0
  have b1 := hbB.box.c1
  clear hA hB hbA hbB hbA2 hbw
  go_enter Try.func8, Try.ntmps8
  go_wp2_with fail
  refine (HcA.out u0 XA.out.row).mono ?_
  rintro e u1 ⟨rfl, hb⟩
  replace XA := Lib.hid (XA.out.below hb)
  replace XB := Lib.hid (XB.out.below hb)
  replace HW := Lib.hid (HW.out.trans (hb.mono HW.out.size))
  have szu1 := hb.size
  clear a0 a1 b0 b1
  have a0 := XA.out.box.c0
  have a1 := XA.out.box.c1
  have b0 := XB.out.box.c0
  have b1 := XB.out.box.c1
  clear hb
  go_wp2_with fail
  refine (HrA.out u1 XA.out.row).mono ?_
  rintro e u2 ⟨rfl, hb⟩
  replace XA := Lib.hid (XA.out.below hb)
  replace XB := Lib.hid (XB.out.below hb)
  replace HW := Lib.hid (HW.out.trans (hb.mono HW.out.size))
  have szu2 := hb.size
  clear a0 a1 b0 b1
  have a0 := XA.out.box.c0
  have a1 := XA.out.box.c1
  have b0 := XB.out.box.c0
  have b1 := XB.out.box.c1
  clear hb
  go_wp2_with fail
  refine (HcM.out u2 XA.out.row XB.out.row).mono ?_
  rintro e v3 ⟨⟨_, rfl, mXM, kXM, rfl, hr, _⟩, hb⟩
  replace XA := Lib.hid (XA.out.below hb)
  replace XB := Lib.hid (XB.out.below hb)
  replace HW := Lib.hid (HW.out.trans (hb.mono HW.out.size))
  have szv3 := hb.size
  obtain ⟨y0, y1, y2, y3⟩ := box0 v3
  have hx := BX.new (C := MC) hr
  have hb2 := (Below.refl v3.heap.size v3).alloc (Nat.le_refl _) (.cells #[.int .i64 MC, .slice mXM ML.length kXM] 24)
  have hsa : v3.heap.size < (v3.alloc (.cells #[.int .i64 MC, .slice mXM ML.length kXM] 24)).heap.size := by simp
  obtain ⟨u3, hu3⟩ : ∃ u, v3.alloc (.cells #[.int .i64 MC, .slice mXM ML.length kXM] 24) = u := ⟨_, rfl⟩
  rw [hu3] at hx hb2 hsa
  have sxu3 := hsa
  replace XA := Lib.hid (XA.out.below hb2)
  replace XB := Lib.hid (XB.out.below hb2)
  replace HW := Lib.hid (HW.out.trans (hb2.mono HW.out.size))
  have szu3 := hb2.size
  clear a0 a1 b0 b1
  have a0 := XA.out.box.c0
  have a1 := XA.out.box.c1
  have b0 := XB.out.box.c0
  have b1 := XB.out.box.c1
  have XM := Lib.hid hx
  clear hb hr hx hb2 hsa
  go_wp2_with fail
  refine (HrM.out u3 XA.out.row XB.out.row).mono ?_
  rintro e v4 ⟨⟨_, rfl, mXN, kXN, rfl, hr, _⟩, hb⟩
  replace XA := Lib.hid (XA.out.below hb)
  replace XB := Lib.hid (XB.out.below hb)
  replace XM := Lib.hid (XM.out.below hb)
  replace HW := Lib.hid (HW.out.trans (hb.mono HW.out.size))
  have szv4 := hb.size
  obtain ⟨y0, y1, y2, y3⟩ := box0 v4
  have hx := BX.new (C := MC) hr
  have hb2 := (Below.refl v4.heap.size v4).alloc (Nat.le_refl _) (.cells #[.int .i64 MC, .slice mXN ML.length kXN] 24)
  have hsa : v4.heap.size < (v4.alloc (.cells #[.int .i64 MC, .slice mXN ML.length kXN] 24)).heap.size := by simp
  obtain ⟨u4, hu4⟩ : ∃ u, v4.alloc (.cells #[.int .i64 MC, .slice mXN ML.length kXN] 24) = u := ⟨_, rfl⟩
  rw [hu4] at hx hb2 hsa
  have sxu4 := hsa
  replace XA := Lib.hid (XA.out.below hb2)
  replace XB := Lib.hid (XB.out.below hb2)
  replace XM := Lib.hid (XM.out.below hb2)
  replace HW := Lib.hid (HW.out.trans (hb2.mono HW.out.size))
  have szu4 := hb2.size
  clear a0 a1 b0 b1
  have a0 := XA.out.box.c0
  have a1 := XA.out.box.c1
  have b0 := XB.out.box.c0
  have b1 := XB.out.box.c1
  have XN := Lib.hid hx
  clear hb hr hx hb2 hsa
  go_wp2_with fail
  refine (HcT.out u4 XA.out.row).mono ?_
  rintro e v5 ⟨⟨_, rfl, mXP, kXP, rfl, hr, _⟩, hb⟩
  replace XA := Lib.hid (XA.out.below hb)
  replace XB := Lib.hid (XB.out.below hb)
  replace XM := Lib.hid (XM.out.below hb)
  replace XN := Lib.hid (XN.out.below hb)
  replace HW := Lib.hid (HW.out.trans (hb.mono HW.out.size))
  have szv5 := hb.size
  obtain ⟨y0, y1, y2, y3⟩ := box0 v5
  have hx := BX.new (C := TC) hr
  have hb2 := (Below.refl v5.heap.size v5).alloc (Nat.le_refl _) (.cells #[.int .i64 TC, .slice mXP TL.length kXP] 24)
  have hsa : v5.heap.size < (v5.alloc (.cells #[.int .i64 TC, .slice mXP TL.length kXP] 24)).heap.size := by simp
  obtain ⟨u5, hu5⟩ : ∃ u, v5.alloc (.cells #[.int .i64 TC, .slice mXP TL.length kXP] 24) = u := ⟨_, rfl⟩
  rw [hu5] at hx hb2 hsa
  have sxu5 := hsa
  replace XA := Lib.hid (XA.out.below hb2)
  replace XB := Lib.hid (XB.out.below hb2)
  replace XM := Lib.hid (XM.out.below hb2)
  replace XN := Lib.hid (XN.out.below hb2)
  replace HW := Lib.hid (HW.out.trans (hb2.mono HW.out.size))
  have szu5 := hb2.size
  clear a0 a1 b0 b1
  have a0 := XA.out.box.c0
  have a1 := XA.out.box.c1
  have b0 := XB.out.box.c0
  have b1 := XB.out.box.c1
  have XP := Lib.hid hx
  clear hb hr hx hb2 hsa
  go_wp2_with fail
  refine (HrT.out u5 XA.out.row).mono ?_
  rintro e v6 ⟨⟨_, rfl, mXQ, kXQ, rfl, hr, _⟩, hb⟩
  replace XA := Lib.hid (XA.out.below hb)
  replace XB := Lib.hid (XB.out.below hb)
  replace XM := Lib.hid (XM.out.below hb)
  replace XN := Lib.hid (XN.out.below hb)
  replace XP := Lib.hid (XP.out.below hb)
  replace HW := Lib.hid (HW.out.trans (hb.mono HW.out.size))
  have szv6 := hb.size
  obtain ⟨y0, y1, y2, y3⟩ := box0 v6
  have hx := BX.new (C := TC) hr
  have hb2 := (Below.refl v6.heap.size v6).alloc (Nat.le_refl _) (.cells #[.int .i64 TC, .slice mXQ TL.length kXQ] 24)
  have hsa : v6.heap.size < (v6.alloc (.cells #[.int .i64 TC, .slice mXQ TL.length kXQ] 24)).heap.size := by simp
  obtain ⟨u6, hu6⟩ : ∃ u, v6.alloc (.cells #[.int .i64 TC, .slice mXQ TL.length kXQ] 24) = u := ⟨_, rfl⟩
  rw [hu6] at hx hb2 hsa
  have sxu6 := hsa
  replace XA := Lib.hid (XA.out.below hb2)
  replace XB := Lib.hid (XB.out.below hb2)
  replace XM := Lib.hid (XM.out.below hb2)
  replace XN := Lib.hid (XN.out.below hb2)
  replace XP := Lib.hid (XP.out.below hb2)
  replace HW := Lib.hid (HW.out.trans (hb2.mono HW.out.size))
  have szu6 := hb2.size
  clear a0 a1 b0 b1
  have a0 := XA.out.box.c0
  have a1 := XA.out.box.c1
  have b0 := XB.out.box.c0
  have b1 := XB.out.box.c1
  have XQ := Lib.hid hx
  clear hb hr hx hb2 hsa
  have fXA0 : ∀ n : Over u6, n.w.cell? ⟨w.heap.size, 0, none⟩ = some (.int .i64 C) := fun n => cell_below n.h XA.out.box.c0
  have fXA1 : ∀ n : Over u6, n.w.cell? ⟨w.heap.size, 1, none⟩ = some (.slice a R.length ca) := fun n => cell_below n.h XA.out.box.c1
  have fXM0 : ∀ n : Over u6, n.w.cell? ⟨v3.heap.size, 0, none⟩ = some (.int .i64 MC) := fun n => cell_below n.h XM.out.box.c0
  have fXM1 : ∀ n : Over u6, n.w.cell? ⟨v3.heap.size, 1, none⟩ = some (.slice mXM ML.length kXM) := fun n => cell_below n.h XM.out.box.c1
  have fXN0 : ∀ n : Over u6, n.w.cell? ⟨v4.heap.size, 0, none⟩ = some (.int .i64 MC) := fun n => cell_below n.h XN.out.box.c0
  have fXN1 : ∀ n : Over u6, n.w.cell? ⟨v4.heap.size, 1, none⟩ = some (.slice mXN ML.length kXN) := fun n => cell_below n.h XN.out.box.c1
  have fXP0 : ∀ n : Over u6, n.w.cell? ⟨v5.heap.size, 0, none⟩ = some (.int .i64 TC) := fun n => cell_below n.h XP.out.box.c0
  have fXP1 : ∀ n : Over u6, n.w.cell? ⟨v5.heap.size, 1, none⟩ = some (.slice mXP TL.length kXP) := fun n => cell_below n.h XP.out.box.c1
  have fXQ0 : ∀ n : Over u6, n.w.cell? ⟨v6.heap.size, 0, none⟩ = some (.int .i64 TC) := fun n => cell_below n.h XQ.out.box.c0
  have fXQ1 : ∀ n : Over u6, n.w.cell? ⟨v6.heap.size, 1, none⟩ = some (.slice mXQ TL.length kXQ) := fun n => cell_below n.h XQ.out.box.c1
  have HO := Over.one u6
  have S1 := Lib.hid (fun n : Over u6 => same_yes MC MC mXM mXN kXM kXN ML ML n.w (XM.out.row.below n.h) (XN.out.row.below n.h) rfl rfl)
  have S2 := Lib.hid (fun n : Over u6 => same_yes TC TC mXP mXQ kXP kXQ TL TL n.w (XP.out.row.below n.h) (XQ.out.row.below n.h) rfl rfl)
  have GcN := Lib.hid (fun n : Over u6 => HcN.out n.w (XA.out.row.below n.h))
  have GrN := Lib.hid (fun n : Over u6 => HrN.out n.w (XA.out.row.below n.h))
  have GcV := Lib.hid (fun n : Over u6 => HcV.out n.w (XA.out.row.below n.h))
  have GrV := Lib.hid (fun n : Over u6 => HrV.out n.w (XA.out.row.below n.h))
  go_upto_region 7 with fail
  clear y0 y1 y2 y3
  go_cut [98] (fun s98 wx => s98 = .bool false ∧ Below u6.heap.size u6 wx)
  case first =>
    clear a0 a1 b0 b1
    refine wp_region_over (by kernel_rfl) (by kernel_rfl) ?_
    repeat (go_big_quiet_step (first | exact fun _ => rfl | rfl | (with_reducible exact quiet_over (S1.out _)) | (with_reducible exact quiet_over (S2.out _)) | (with_reducible exact quiet_over (GcN.out _)) | (with_reducible exact quiet_over (GrN.out _)) | (with_reducible exact quiet_over (GcV.out _)) | (with_reducible exact quiet_over (GrV.out _))))
    refine wpQuiet_nil ?_
    intro _ hw'
    obtain ⟨nq, rfl⟩ := hw'
    go_wp2_with fail
    go_meet
    exact ⟨by first | rfl | trivial | simp, nq.h⟩
  case rest =>
  obtain ⟨rfl, hbc⟩ := hcut
  clear fXA0 fXA1 fXM0 fXM1 fXN0 fXN1 fXP0 fXP1 fXQ0 fXQ1 S1 S2 GcN GrN GcV GrV HO
  replace XA := Lib.hid (XA.out.below hbc)
  replace XB := Lib.hid (XB.out.below hbc)
  replace XM := Lib.hid (XM.out.below hbc)
  replace XN := Lib.hid (XN.out.below hbc)
  replace XP := Lib.hid (XP.out.below hbc)
  replace XQ := Lib.hid (XQ.out.below hbc)
  replace HW := Lib.hid (HW.out.trans (hbc.mono HW.out.size))
  have szwc := hbc.size
  clear a0 a1 b0 b1
  have a0 := XA.out.box.c0
  have a1 := XA.out.box.c1
  have b0 := XB.out.box.c0
  have b1 := XB.out.box.c1
  clear hbc
  clear XP XQ
  go_wp2_with fail
  refine (HcI.out wc XA.out.row).mono ?_
  rintro e v7 ⟨⟨_, rfl, mI1, kI1, rfl, hr, _⟩, hb⟩
  replace XA := Lib.hid (XA.out.below hb)
  replace XB := Lib.hid (XB.out.below hb)
  replace XM := Lib.hid (XM.out.below hb)
  replace XN := Lib.hid (XN.out.below hb)
  replace HW := Lib.hid (HW.out.trans (hb.mono HW.out.size))
  have szv7 := hb.size
  have q0 := XM.out.box.c0
  have q1 := XM.out.box.c1
  have g0 := XM.out.box.f0
  have g1 := XM.out.box.f1
  have q2 : (v7.setCell ⟨v3.heap.size, 0, none⟩ (.int .i64 IC)).cell? ⟨v3.heap.size, 1, none⟩ = _ := (World.cell?_setCell_other _ _ _ _ (by intro e; cases e)).trans q1
  have hx := XM.out.put (C' := IC) hr
  have hXA := XA.out.stored (C' := IC) (a' := mI1) (n' := IL.length) (c' := kI1) XM.out (by omega)
  have hXB := XB.out.stored (C' := IC) (a' := mI1) (n' := IL.length) (c' := kI1) XM.out (by omega)
  have hXN := XN.out.stored (C' := IC) (a' := mI1) (n' := IL.length) (c' := kI1) XM.out (by omega)
  have hbw := (HW.out.setCell (p := ⟨v3.heap.size, 0, none⟩) (by show w.heap.size ≤ v3.heap.size; omega) (.int .i64 IC)).setCell (p := ⟨v3.heap.size, 1, none⟩) (by show w.heap.size ≤ v3.heap.size; omega) (.slice mI1 IL.length kI1)
  obtain ⟨u7, hu7⟩ : ∃ u, (v7.setCell ⟨v3.heap.size, 0, none⟩ (.int .i64 IC)).setCell ⟨v3.heap.size, 1, none⟩ (.slice mI1 IL.length kI1) = u := ⟨_, rfl⟩
  rw [hu7] at hx hbw hXA hXB hXN
  replace XA := Lib.hid hXA
  replace XB := Lib.hid hXB
  replace XN := Lib.hid hXN
  replace XM := Lib.hid hx
  replace HW := Lib.hid hbw
  clear a0 a1 b0 b1
  have a0 := XA.out.box.c0
  have a1 := XA.out.box.c1
  have b0 := XB.out.box.c0
  have b1 := XB.out.box.c1
  clear hb hr hx hbw hXA hXB hXN
  go_wp2_with fail
  refine (HrI.out u7 XA.out.row).mono ?_
  rintro e v8 ⟨⟨_, rfl, mI2, kI2, rfl, hr, _⟩, hb⟩
  replace XA := Lib.hid (XA.out.below hb)
  replace XB := Lib.hid (XB.out.below hb)
  replace XM := Lib.hid (XM.out.below hb)
  replace XN := Lib.hid (XN.out.below hb)
  replace HW := Lib.hid (HW.out.trans (hb.mono HW.out.size))
  have szv8 := hb.size
  have q0 := XN.out.box.c0
  have q1 := XN.out.box.c1
  have g0 := XN.out.box.f0
  have g1 := XN.out.box.f1
  have q2 : (v8.setCell ⟨v4.heap.size, 0, none⟩ (.int .i64 IC)).cell? ⟨v4.heap.size, 1, none⟩ = _ := (World.cell?_setCell_other _ _ _ _ (by intro e; cases e)).trans q1
  have hx := XN.out.put (C' := IC) hr
  have hXA := XA.out.stored (C' := IC) (a' := mI2) (n' := IL.length) (c' := kI2) XN.out (by omega)
  have hXB := XB.out.stored (C' := IC) (a' := mI2) (n' := IL.length) (c' := kI2) XN.out (by omega)
  have hXM := XM.out.stored (C' := IC) (a' := mI2) (n' := IL.length) (c' := kI2) XN.out (by omega)
  have hbw := (HW.out.setCell (p := ⟨v4.heap.size, 0, none⟩) (by show w.heap.size ≤ v4.heap.size; omega) (.int .i64 IC)).setCell (p := ⟨v4.heap.size, 1, none⟩) (by show w.heap.size ≤ v4.heap.size; omega) (.slice mI2 IL.length kI2)
  obtain ⟨u8, hu8⟩ : ∃ u, (v8.setCell ⟨v4.heap.size, 0, none⟩ (.int .i64 IC)).setCell ⟨v4.heap.size, 1, none⟩ (.slice mI2 IL.length kI2) = u := ⟨_, rfl⟩
  rw [hu8] at hx hbw hXA hXB hXM
  replace XA := Lib.hid hXA
  replace XB := Lib.hid hXB
  replace XM := Lib.hid hXM
  replace XN := Lib.hid hx
  replace HW := Lib.hid hbw
  clear a0 a1 b0 b1
  have a0 := XA.out.box.c0
  have a1 := XA.out.box.c1
  have b0 := XB.out.box.c0
  have b1 := XB.out.box.c1
  clear hb hr hx hbw hXA hXB hXM
  go_wp2_with fail
  refine (HcS.out u8 XA.out.row).mono ?_
  rintro e u9 ⟨rfl, hb⟩
  replace XA := Lib.hid (XA.out.below hb)
  replace XB := Lib.hid (XB.out.below hb)
  replace XM := Lib.hid (XM.out.below hb)
  replace XN := Lib.hid (XN.out.below hb)
  replace HW := Lib.hid (HW.out.trans (hb.mono HW.out.size))
  have szu9 := hb.size
  clear a0 a1 b0 b1
  have a0 := XA.out.box.c0
  have a1 := XA.out.box.c1
  have b0 := XB.out.box.c0
  have b1 := XB.out.box.c1
  clear hb
  go_wp2_with fail
  refine (HrS.out u9 XA.out.row).mono ?_
  rintro e u10 ⟨rfl, hb⟩
  replace XA := Lib.hid (XA.out.below hb)
  replace XB := Lib.hid (XB.out.below hb)
  replace XM := Lib.hid (XM.out.below hb)
  replace XN := Lib.hid (XN.out.below hb)
  replace HW := Lib.hid (HW.out.trans (hb.mono HW.out.size))
  have szu10 := hb.size
  clear a0 a1 b0 b1
  have a0 := XA.out.box.c0
  have a1 := XA.out.box.c1
  have b0 := XB.out.box.c0
  have b1 := XB.out.box.c1
  clear hb
  go_wp2_with fail
  refine (HcK.out u10 XA.out.row).mono ?_
  rintro e u11 ⟨⟨_, rfl, mK1, kK1, rfl, hr, _⟩, hb⟩
  replace XA := Lib.hid (XA.out.below hb)
  replace XB := Lib.hid (XB.out.below hb)
  replace XM := Lib.hid (XM.out.below hb)
  replace XN := Lib.hid (XN.out.below hb)
  replace HW := Lib.hid (HW.out.trans (hb.mono HW.out.size))
  have szu11 := hb.size
  clear a0 a1 b0 b1
  have a0 := XA.out.box.c0
  have a1 := XA.out.box.c1
  have b0 := XB.out.box.c0
  have b1 := XB.out.box.c1
  have LK1 := Lib.hid hr
  clear hb hr
  go_wp2_with fail
  refine (HrK.out u11 XA.out.row).mono ?_
  rintro e u12 ⟨⟨_, rfl, mK2, kK2, rfl, hr, _⟩, hb⟩
  replace XA := Lib.hid (XA.out.below hb)
  replace XB := Lib.hid (XB.out.below hb)
  replace XM := Lib.hid (XM.out.below hb)
  replace XN := Lib.hid (XN.out.below hb)
  replace LK1 := Lib.hid (LK1.out.below hb)
  replace HW := Lib.hid (HW.out.trans (hb.mono HW.out.size))
  have szu12 := hb.size
  clear a0 a1 b0 b1
  have a0 := XA.out.box.c0
  have a1 := XA.out.box.c1
  have b0 := XB.out.box.c0
  have b1 := XB.out.box.c1
  have LK2 := Lib.hid hr
  clear hb hr
  have m0 := XM.out.box.c0
  have m1 := XM.out.box.c1
  have n0 := XN.out.box.c0
  have n1 := XN.out.box.c1
  go_wp2_with fail
  refine (same_yes IC IC mI1 mI2 kI1 kI2 IL IL u12 XM.out.row XN.out.row rfl rfl).mono ?_
  rintro e uu ⟨rfl, hb⟩
  replace XA := Lib.hid (XA.out.below hb)
  replace XB := Lib.hid (XB.out.below hb)
  replace XM := Lib.hid (XM.out.below hb)
  replace XN := Lib.hid (XN.out.below hb)
  replace LK1 := Lib.hid (LK1.out.below hb)
  replace LK2 := Lib.hid (LK2.out.below hb)
  replace HW := Lib.hid (HW.out.trans (hb.mono HW.out.size))
  have szuu := hb.size
  clear hb m0 m1 n0 n1
  go_wp2_with fail
  refine (sameList_yes mK1 mK2 kK1 kK2 KL KL uu LK1.out LK2.out rfl).mono ?_
  rintro e ux ⟨rfl, hb⟩
  replace HW := Lib.hid (HW.out.trans (hb.mono HW.out.size))
  clear hb
  go_wp2_with fail
  go_ret
  exact ⟨rfl, HW.out⟩
end Go.Proofs.Ytgaanojfjaifhaa.B
