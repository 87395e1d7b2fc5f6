/- bitmat.Rank, Inverse. -/
import Derived.Test.YtodiokladojnjaaBTurn
namespace Go.Proofs.Ytodiokladojnjaa.B
open Go Go.RowKit Go.Shelf
open BM (St)

/-- The solved system. -/
def sv (C : Nat) (R : List V) (r : Nat → V) : St := BM.run R.length ⟨el R, r, []⟩ C
def rankN (C : Int) (R : List V) : Nat := if validB C R then (sv C.toNat R (fun _ => 0)).P.length else 0
theorem sv_len (C : Nat) (R : List V) (r : Nat → V) : (sv C R r).P.length ≤ R.length := run_len _ _ (Nat.zero_le _) _

set_option maxRecDepth 100000 in
set_option maxHeartbeats 1000000 in
/-- **bitmat.Rank** -/
theorem rank_any (C : Int) (a : Option Addr) (ca : Nat) (R : List V) (w : World) (hA : Row w a R ca) :
    Calls Try.prog 35 #[.agg #[.int .i64 C, .slice a R.length ca]] w fun e W => e = .returned (.int .i64 (rankN C R : Int)) ∧ Below w.heap.size w W := by
  have hbx := MBox.new w C a R.length ca 49
  have hb1 := (Below.refl w.heap.size w).alloc (Nat.le_refl _) (.cells #[.int .i64 C, .slice a R.length ca] 49)
  have hr1 := hA.alloc (.cells #[.int .i64 C, .slice a R.length ca] 49)
  obtain ⟨w1, hw1⟩ : ∃ w1, w.alloc (.cells #[.int .i64 C, .slice a R.length ca] 49) = w1 := ⟨_, rfl⟩
  have hs1 : w1.heap.size = w.heap.size + 1 := by rw [← hw1]; simp
  rw [hw1] at hbx hb1 hr1
  have hv1 := valid_any C a ca R w1 hr1
  have a0 := hbx.c0
  have a1 := hbx.c1
  have HBX := Lib.hid hbx
  have HB1 := Lib.hid hb1
  have HR1 := Lib.hid hr1
  have HS1 := Lib.hid hs1
  clear hA hbx hb1 hr1 hs1
  cases hva : validB C R with
  | false =>
    have e0 : rankN C R = 0 := by unfold rankN; rw [hva]; rfl
    rw [e0]
    rw [hva] at hv1
    have H1 := Lib.hid hv1
    clear hv1 hva e0
    go_enter Try.func35, Try.ntmps35
    go_wp2_with fail
    refine H1.out.mono ?_
    rintro e w2 ⟨rfl, hb2⟩
    have HB2 := Lib.hid (HB1.out.trans (hb2.mono HB1.out.size))
    clear hb2
    go_wp2_with fail
    go_ret
    exact ⟨rfl, HB2.out⟩
  | true =>
    obtain ⟨D, rfl, hM⟩ := MV.of hva
    have e0 : rankN D R = (sv D R (fun _ => 0)).P.length := by unfold rankN; rw [hva, Int.toNat_natCast]; rfl
    rw [e0]
    rw [hva] at hv1
    have H1 := Lib.hid hv1
    have l1 := hM.r1
    have l2 := hM.r2
    have l4 := hM.c2
    clear hv1 hva e0
    go_enter Try.func35, Try.ntmps35
    go_wp2_with fail
    refine H1.out.mono ?_
    rintro e w2 ⟨rfl, hb2⟩
    have HB2 := Lib.hid (HB1.out.trans (hb2.mono HB1.out.size))
    have d0 := cell_below hb2 a0
    have d1 := cell_below hb2 a1
    have hr2 := HR1.out.below hb2
    obtain ⟨mk, hmk, hown⟩ := make_fact (α := V) R.length (by omega)
    have hmk' : ∀ W : World, (Instr.makeSlice 22 (.int .i64 (R.length : Int)) (.int .i64 (R.length : Int))).run Try.prog W = .ok (.slice (some ⟨W.heap.size, 0, none⟩) R.length R.length) (W.alloc mk) := hmk
    have k0 := cell_later mk d0
    have k1 := cell_later mk d1
    have ho := hown w2 w2.heap.size (Nat.le_refl _)
    rw [tab_replicate] at ho
    have hsl := solved_any (w2.alloc mk).drew w2.heap.size D w2.heap.size R.length a ca R (fun _ => 0) (by simp) l4 l1 l2 ((hr2.alloc mk).drewN 1) ho
    have HSL := Lib.hid hsl
    have HMK := Lib.hid ((Below.refl w2.heap.size w2).alloc (Nat.le_refl _) mk)
    clear hb2 hr2 hmk hown ho hsl H1 a0 a1
    go_wp2_with fail
    go_region_law (go_simp; go_at_call 38; (with_reducible refine HSL.out.mono ?_); rintro e w3 ⟨⟨g, gr, cr, rfl, hS⟩, hb3⟩; (have hp := hS.pivots; obtain ⟨ap, cp, p3, _, hp1, hp2⟩ := hp); have HS := Lib.hid hS; have HB3 := Lib.hid hb3; clear hS hb3; go_simp)
    all_goals (
      go_wp2_with fail
      go_ret
      exact ⟨rfl, HB2.out.trans ((HMK.out.trans (belowK HB3.out)).mono HB2.out.size)⟩)

def invE (C : Int) (R : List V) : Int := if validB C R then (if C = R.length then (if (sv C.toNat R unitF).P.length < C.toNat then 6 else 0) else 7) else 1
def invC (C : Int) (R : List V) : Int := if invE C R = 0 then C else 0
def invR (C : Int) (R : List V) : List V := if invE C R = 0 then tab R.length (sv C.toNat R unitF).r else []

theorem Sys.mono {W : World} {B g m C gr cr gx cx : Nat} {s : St} {B' : Nat} (h : Sys W B g m C gr cr gx cx s) (hB : B' ≤ B) : Sys W B' g m C gr cr gx cx s := by
  obtain ⟨ap, cp, h1, h2, h3⟩ := h.c3
  exact ⟨h.c0, h.c1, h.c2, ⟨ap, cp, h1, h2.mono hB, h3⟩, h.f3, h.rows.mono hB, h.right.mono hB, Nat.le_trans hB h.gB, h.n1, h.n2, h.n3⟩
theorem solved_at (w : World) (B C gx n : Nat) (a : Option Addr) (cap : Nat) (R : List V) (r : Nat → V) (hn : n = R.length) (hB : B ≤ w.heap.size) (hC : C ≤ 64) (hm0 : 0 < R.length) (hm : R.length ≤ 64) (hR : Row w a R cap) (hX : Own w B (.slice (some ⟨gx, 0, none⟩) n n) (tab n r)) :
    Calls Try.prog 38 #[.agg #[.int .i64 (C : Int), .slice a R.length cap], .slice (some ⟨gx, 0, none⟩) n n] w fun e W => (∃ g gr cr, e = .returned (.pointer (some ⟨g, 0, none⟩)) ∧ Sys W B g R.length C gr cr gx R.length (sv C R r)) ∧ Below B w W := by
  subst hn
  exact solved_any w B C gx R.length a cap R r hB hC hm0 hm hR hX
def InvCut (w : World) (D : Nat) (a : Option Addr) (ca : Nat) (R : List V) (v : Value) (W : World) : Prop :=
  ∃ g gr cr gx cx, v = .pointer (some ⟨g, 0, none⟩) ∧ Sys W (w.heap.size + 1 + 1) g R.length D gr cr gx cx (sv D R unitF) ∧ M1 w D a ca R W
set_option maxRecDepth 100000 in
set_option maxHeartbeats 1000000 in
/-- **bitmat.Inverse** -/
theorem inverse_any (C : Int) (a : Option Addr) (ca : Nat) (R : List V) (w : World) (hA : Row w a R ca) :
    Calls Try.prog 26 #[.agg #[.int .i64 C, .slice a R.length ca]] w fun e W => (∃ v, e = .returned (.tuple #[v, .int .i64 (invE C R)]) ∧ MatR w.heap.size W v (invC C R) (invR C R)) ∧ Below w.heap.size w W := by
  have hS := M1.start (C := C) hA
  obtain ⟨w3, hw3⟩ : ∃ w3, ((w.alloc (.cells #[.int .i64 C, .slice a R.length ca] 49)).alloc (.cells #[.int .i64 0, .slice none 0 0] 49)) = w3 := ⟨_, rfl⟩
  rw [hw3] at hS
  have hv1 := valid_any C a ca R w3 hS.ra
  have a0 := hS.pa.c0
  have a1 := hS.pa.c1
  have HS := Lib.hid hS
  clear hA hS
  cases hva : validB C R with
  | false =>
    have e0 : invE C R = 1 := by unfold invE; rw [hva]; rfl
    have e1 : invC C R = 0 := by unfold invC; rw [e0]; rfl
    have e2 : invR C R = [] := by unfold invR; rw [e0]; rfl
    rw [e0, e1, e2]
    rw [hva] at hv1
    have H1 := Lib.hid hv1
    clear hv1 hva e0 e1 e2
    go_enter Try.func26, Try.ntmps26
    go_wp2_with fail
    refine H1.out.mono ?_
    rintro e w4 ⟨rfl, hb4⟩
    have S4 := HS.out.keep hb4
    obtain ⟨z1, z2, r1'⟩ := S4.stored 0 none 0 0
    have r0 := S4.pr.c0
    have r1 := S4.pr.c1
    have f0 := S4.pr.f0
    have f1 := S4.pr.f1
    have Z1 := Lib.hid z1
    have Z2 := Lib.hid z2
    clear z1 z2 S4 hb4
    go_wp2_with fail
    exact bodyPost_ret (v := .tuple #[.agg #[.int .i64 0, .slice none 0 0], .int .i64 1]) (by simp [results, Try.results26, go_sem, Z1.out.c0, Z1.out.c1]) rfl ⟨⟨_, rfl, MatR.none _ _⟩, Z2.out⟩
  | true =>
    obtain ⟨D, rfl, hM⟩ := MV.of hva
    rw [hva] at hv1
    have H1 := Lib.hid hv1
    have l1 := hM.r1
    have l2 := hM.r2
    have l3 := hM.c1
    have l4 := hM.c2
    by_cases hDR : (D : Int) = R.length
    · have hDR' : D = R.length := by omega
      have hne : ((R.length : Int) != (D : Int)) = false := by rw [hDR']; simp
      have HDR := Lib.hid hDR'
      have HVA := Lib.hid hva
      have HDI := Lib.hid hDR
      clear hv1 hva hDR hDR'
      go_enter Try.func26, Try.ntmps26
      go_wp2_with fail
      refine H1.out.mono ?_
      rintro e w4 ⟨rfl, hb4⟩
      have S4 := HS.out.keep hb4
      have HS4 := Lib.hid S4
      clear hb4 H1 a0 a1
      have a0 := S4.pa.c0
      have a1 := S4.pa.c1
      have HU := Lib.hid (unitRows_any D w4.drew (by omega))
      clear S4
      go_upto_region 5 with fail
      go_cut [4] (fun s4 wx => InvCut w D a ca R s4 wx)
      case first =>
        go_region_law (first
          | (go_simp; go_at_call 39; (with_reducible refine HU.out.mono ?_); rintro e w5 ⟨rfl, ho5, hb5⟩; have S5 := HS4.out.keep (belowK hb5); have d0 := S5.pa.c0; have d1 := S5.pa.c1; have HSL := Lib.hid (solved_at w5 w4.heap.size D w4.heap.size D a ca R unitF HDR.out hb5.size l4 l1 l2 S5.ra ho5); have HS5 := Lib.hid S5; have HB5 := Lib.hid hb5; clear S5 ho5 hb5; go_simp)
          | (go_simp; go_at_call 38; (with_reducible refine HSL.out.mono ?_); rintro e w6 ⟨⟨g, gr, cr, rfl, hS6⟩, hb6⟩; have HS6 := Lib.hid hS6; have HB6 := Lib.hid hb6; clear hS6 hb6; go_simp))
        all_goals (
          go_wp2_with fail
          go_meet
          have hsz := HS4.out.size
          have hq : Below (w.heap.size + 1 + 1) w4 w5 := (belowK HB5.out).mono hsz
          have S6 : M1 w D a ca R w6 := HS4.out.keep ((belowK HB5.out).trans (HB6.out))
          exact ⟨g, gr, cr, _, _, rfl, HS6.out.mono hsz, S6⟩)
      case rest =>
        obtain ⟨g, gr, cr, gx, cx, rfl, hS, hM1⟩ := hcut
        clear a0 a1 HS HS4 HU
        have c0 := hS.c0
        have c2 := hS.c2
        obtain ⟨ap, cp, c3, hp, hp1, hp2⟩ := hS.pivots
        have HSY := Lib.hid hS
        have HM1 := Lib.hid hM1
        obtain ⟨x1, x2, x3, x4⟩ := hS.room
        by_cases hsing : (sv D R unitF).P.length < D
        · have e0 : invE D R = 6 := by unfold invE; rw [HVA.out, if_pos rfl, if_pos HDI.out, Int.toNat_natCast, if_pos hsing]
          have e1 : invC D R = 0 := by unfold invC; rw [e0]; rfl
          have e2 : invR D R = [] := by unfold invR; rw [e0]; rfl
          have E0 := Lib.hid e0
          have E1 := Lib.hid e1
          have E2 := Lib.hid e2
          obtain ⟨z1, z2, r1'⟩ := hM1.stored 0 none 0 0
          have r0 := hM1.pr.c0
          have r1 := hM1.pr.c1
          have f0 := hM1.pr.f0
          have f1 := hM1.pr.f1
          have Z1 := Lib.hid z1
          have Z2 := Lib.hid z2
          have hsI : ((sv D R unitF).P.length : Int) < (D : Int) := by omega
          generalize (sv D R unitF).P.length = n at *
          clear z1 z2 hS hM1 e0 e1 e2 hp
          go_wp2_with fail
          go_region
          go_wp2_with fail
          exact bodyPost_ret (v := .tuple #[.agg #[.int .i64 0, .slice none 0 0], .int .i64 6]) (by simp [results, Try.results26, go_sem, Z1.out.c0, Z1.out.c1]) rfl ⟨⟨_, by rw [E0.out], by rw [E1.out, E2.out]; exact MatR.none _ _⟩, belowN Z2.out 1⟩
        · have e0 : invE D R = 0 := by unfold invE; rw [HVA.out, if_pos rfl, if_pos HDI.out, Int.toNat_natCast, if_neg hsing]
          have e1 : invC D R = D := by unfold invC; rw [if_pos e0]
          have e2 : invR D R = tab R.length (sv D R unitF).r := by unfold invR; rw [if_pos e0, Int.toNat_natCast]
          have E0 := Lib.hid e0
          have E1 := Lib.hid e1
          have E2 := Lib.hid e2
          obtain ⟨z1, z2, r1'⟩ := hM1.stored D (some ⟨gx, 0, none⟩) R.length cx
          have r0 := hM1.pr.c0
          have r1 := hM1.pr.c1
          have f0 := hM1.pr.f0
          have f1 := hM1.pr.f1
          have Z1 := Lib.hid z1
          have Z2 := Lib.hid z2
          have HRT := Lib.hid hS.right
          have hgxB := hS.bX l1
          have hsI : ¬ ((sv D R unitF).P.length : Int) < (D : Int) := by omega
          generalize (sv D R unitF).P.length = n at *
          clear z1 z2 hS hM1 e0 e1 e2 hp
          go_wp2_with fail
          go_region
          go_wp2_with fail
          go_region
          go_wp2_with fail
          refine bodyPost_ret (v := .tuple #[.agg #[.int .i64 (D : Int), .slice (some ⟨gx, 0, none⟩) R.length cx], .int .i64 0]) (by simp [results, Try.results26, go_sem, Z1.out.c0, Z1.out.c1]) rfl ⟨⟨_, by rw [E0.out], ?_⟩, belowN Z2.out 2⟩
          rw [E1.out, E2.out]
          refine ⟨some ⟨gx, 0, none⟩, cx, by rw [tab_len], ?_, ?_⟩
          · exact (HRT.out.rowAt.boxed HM1.out.pr).drewN 2
          · intro b' o' e
            cases e
            omega
    · have hne : ((R.length : Int) != (D : Int)) = true := by simp; omega
      have e0 : invE D R = 7 := by unfold invE; rw [hva, if_pos rfl, if_neg hDR]
      have e1 : invC D R = 0 := by unfold invC; rw [e0]; rfl
      have e2 : invR D R = [] := by unfold invR; rw [e0]; rfl
      rw [e0, e1, e2]
      clear hv1 hva e0 e1 e2 hDR
      go_enter Try.func26, Try.ntmps26
      go_wp2_with fail
      refine H1.out.mono ?_
      rintro e w4 ⟨rfl, hb4⟩
      have S4 := HS.out.keep hb4
      have b0 := S4.pa.c0
      have b1 := S4.pa.c1
      obtain ⟨z1, z2, r1'⟩ := S4.stored 0 none 0 0
      have r0 := S4.pr.c0
      have r1 := S4.pr.c1
      have f0 := S4.pr.f0
      have f1 := S4.pr.f1
      have Z1 := Lib.hid z1
      have Z2 := Lib.hid z2
      clear z1 z2 S4 hb4
      go_wp2_with fail
      exact bodyPost_ret (v := .tuple #[.agg #[.int .i64 0, .slice none 0 0], .int .i64 7]) (by simp [results, Try.results26, go_sem, Z1.out.c0, Z1.out.c1]) rfl ⟨⟨_, rfl, MatR.none _ _⟩, Z2.out⟩
end Go.Proofs.Ytodiokladojnjaa.B
