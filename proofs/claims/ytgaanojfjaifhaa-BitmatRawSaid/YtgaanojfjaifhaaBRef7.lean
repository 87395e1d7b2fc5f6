/- ref05.Solve. -/
import Derived.Test.YtgaanojfjaifhaaBRef6
namespace Go.Proofs.Ytgaanojfjaifhaa.B
open Go Go.RowKit Go.Shelf
open BM (bt St)

set_option maxRecDepth 100000 in
set_option maxHeartbeats 1000000 in
/-- **ref05.Solve** -/
theorem rsolve_any (C : Int) (a : Option Addr) (ca : Nat) (R : List V) (v : V) (w : World) (hA : Row w a R ca) :
    Calls Try.prog 30 #[.agg #[.int .i64 C, .slice a R.length ca], .int .u64 (v.toNat : Int)] w fun e W => e = .returned (.tuple #[.int .u64 ((solveV C R v).toNat : Int), .int .i64 (solveE C R v)]) ∧ Below w.heap.size w W := by
  have hroom := hA.room
  have hmost := hA.most
  have hbx := MBox.new w C a R.length ca 24
  have hb1 := (Below.refl w.heap.size w).alloc (Nat.le_refl _) (.cells #[.int .i64 C, .slice a R.length ca] 24)
  have hr1 := hA.alloc (.cells #[.int .i64 C, .slice a R.length ca] 24)
  obtain ⟨w1, hw1⟩ : ∃ w1, w.alloc (.cells #[.int .i64 C, .slice a R.length ca] 24) = w1 := ⟨_, rfl⟩
  have hs1 : w1.heap.size = w.heap.size + 1 := by rw [← hw1]; simp
  rw [hw1] at hbx hb1 hr1
  have hv1 := rvalid_any C a ca R w1 hr1
  have a0 := hbx.c0
  have a1 := hbx.c1
  have HBX := Lib.hid hbx
  have HB1 := Lib.hid hb1
  have HR1 := Lib.hid hr1
  have HS1 := Lib.hid hs1
  clear hA hbx hb1 hr1 hs1
  cases hva : validB C R with
  | false =>
    have e0 : solveE C R v = 1 := by unfold solveE; rw [hva]; rfl
    have e1 : solveV C R v = 0 := by unfold solveV; rw [e0]; rfl
    rw [e0, e1]
    rw [hva] at hv1
    have H1 := Lib.hid hv1
    clear hv1 hva e0 e1
    go_enter Try.func30, Try.ntmps30
    go_wp2_with fail
    refine H1.out.mono ?_
    rintro e w2 ⟨rfl, hb2⟩
    have HB2 := Lib.hid (HB1.out.trans (hb2.mono HB1.out.size))
    clear hb2
    go_wp2_with fail
    refine bodyPost_ret (v := .tuple #[.int .u64 0, .int .i64 1]) (by simp [results, Try.results30, go_sem]) rfl ⟨rfl, HB2.out⟩
  | true =>
    obtain ⟨D, rfl, hM⟩ := MV.of hva
    rw [hva] at hv1
    have H1 := Lib.hid hv1
    have l1 := hM.r1
    have l2 := hM.r2
    have l4 := hM.c2
    have HM := Lib.hid hM
    have hv : validB D R = true := hva
    clear hv1
    cases hf : fitB v R.length with
    | false =>
      have e0 : solveE D R v = 7 := by unfold solveE; rw [hv, hf]; rfl
      have e1 : solveV D R v = 0 := by unfold solveV; rw [e0]; rfl
      rw [e0, e1]
      have hfi := fun W => beyond_any v R.length W
      rw [hf] at hfi
      have HFI := Lib.hid hfi
      clear hva hv hf hfi e0 e1 hM
      go_enter Try.func30, Try.ntmps30
      go_wp2_with fail
      refine H1.out.mono ?_
      rintro e w2 ⟨rfl, hb2⟩
      have HB2 := Lib.hid (HB1.out.trans (hb2.mono HB1.out.size))
      have d1 := cell_below hb2 a1
      clear hb2
      go_wp2_with fail
      refine (HFI.out w2).mono ?_
      rintro e w3 ⟨rfl, hw⟩
      obtain rfl := hw.symm
      go_wp2_with fail
      refine bodyPost_ret (v := .tuple #[.int .u64 0, .int .i64 7]) (by simp [results, Try.results30, go_sem]) rfl ⟨rfl, HB2.out⟩
    | true =>
      have e0 : solveE D R v = if sing R.length (ek R v D) then 6 else 0 := by unfold solveE ek sv; rw [hv, hf, Int.toNat_natCast]; rfl
      have e1 : solveV D R v = if sing R.length (ek R v D) then 0 else lst (ek R v D).r (el (ek R v D).P) (ek R v D).P.length := by
        unfold solveV; rw [e0]
        cases sing R.length (ek R v D) with
        | true => rfl
        | false => unfold ek sv; rw [Int.toNat_natCast]; rfl
      obtain ⟨ea, hea⟩ : ∃ ea, solveE D R v = ea := ⟨_, rfl⟩
      obtain ⟨va, hva2⟩ : ∃ va, solveV D R v = va := ⟨_, rfl⟩
      rw [hea, hva2]
      rw [hea] at e0
      rw [hva2] at e1
      have HE0 := Lib.hid e0
      have HE1 := Lib.hid e1
      have hfi := fun W => beyond_any v R.length W
      rw [hf] at hfi
      have HFI := Lib.hid hfi
      clear hva hv hf hfi e0 e1 hM hea hva2
      go_enter Try.func30, Try.ntmps30
      go_wp2_with fail
      refine H1.out.mono ?_
      rintro e w2 ⟨rfl, hb2⟩
      have HB2 := Lib.hid (HB1.out.trans (hb2.mono HB1.out.size))
      have d0 := cell_below hb2 a0
      have d1 := cell_below hb2 a1
      have HR2 := Lib.hid (HR1.out.below hb2)
      clear hb2 a0 a1
      go_wp2_with fail
      refine (HFI.out w2).mono ?_
      rintro e w3 ⟨rfl, hw⟩
      obtain rfl := hw.symm
      have HEC := Lib.hid (echelon_any D a ca R v w2 HR2.out HM.out)
      go_wp2_with fail
      refine HEC.out.mono ?_
      rintro e w4 ⟨gr, cr, gx, cx, ap, cp, rfl, hec⟩
      have HB4 := Lib.hid (HB2.out.trans (hec.below.mono HB2.out.size))
      have hpl := ek_le R v D
      have HPV := Lib.hid (sv_piv D R (rhs v))
      obtain ⟨s, hs⟩ : ∃ s, ek R v D = s := ⟨_, rfl⟩
      have hs2 : sv D R (rhs v) = s := hs
      rw [hs2] at HPV
      have he0 := HE0.out
      have he1 := HE1.out
      rw [hs] at hec hpl he0 he1 ⊢
      have HQ0 := Lib.hid he0
      have HQ1 := Lib.hid he1
      obtain ⟨n, hn⟩ : ∃ n, s.P.length = n := ⟨_, rfl⟩
      have hld := hec.lead.rowAt
      obtain ⟨q1, q2⟩ := hld.room, hld.most
      rw [hn] at hpl ⊢
      have HN := Lib.hid hn
      obtain ⟨r1, r2, r3, r4⟩ := hec.room
      have HE := Lib.hid hec
      have HLD := Lib.hid hld
      clear he0 he1 HE0 HE1 hn hs hs2 hec hld HEC HFI H1 HR2 HR1 HBX HB1 HS1 d0 d1
      go_wp2_with fail
      go_loopw [9, 10] (fun ov iv wr => ∃ k : Nat, iv = .int .i64 (k : Int) ∧ k ≤ R.length ∧ ov = .int .u64 ((lst s.r (el s.P) (min k n)).toNat : Int) ∧ Hid (∀ j, n ≤ j → j < k → ¬ (s.r j).toNat = 1) ∧ EcSt w2 wr (w2.heap.size + 1) gr cr gx cx R.length ap cp D a ca s ∧ Below w.heap.size w wr) (fun _ iv _ => R.length - (intOf iv).toNat)
      case atStart => exact ⟨0, rfl, Nat.zero_le _, by rw [Nat.zero_min]; rfl, Lib.hid (fun j h1 h2 => absurd h2 (Nat.not_lt_zero j)), HE.out, HB4.out⟩
      case round =>
        clear HE HB4 HLD
        obtain ⟨k, rfl, hk, rfl, HNO, hec, hbw⟩ := hrel
        have HE := Lib.hid hec
        have HB4 := Lib.hid hbw
        have HLD := Lib.hid hec.lead.rowAt
        clear hec hbw
        by_cases hlt : k < R.length
        · obtain ⟨ck, _⟩ := HE.out.cellX k hlt
          by_cases hkn : k < n
          · obtain ⟨bb, bo, rfl, hcell⟩ := HLD.out.elN k (by rw [HN.out]; exact hkn)
            have hpp := HPV.out k (by rw [HN.out]; exact hkn)
            obtain ⟨x, hx⟩ : ∃ x, s.r k = x := ⟨_, rfl⟩
            obtain ⟨pk, hpk⟩ : ∃ q, el s.P k = q := ⟨_, rfl⟩
            rw [hx] at ck
            rw [hpk] at hcell hpp
            rw [Nat.min_eq_left (Nat.le_of_lt hkn)]
            have hpk64 : pk ≤ 64 := by omega
            have HX := Lib.hid hx
            have HPK := Lib.hid hpk
            clear hx hpk
            go_wp2_with fail
            go_region
            all_goals (
              go_wp2_with fail
              go_roundw
              case rel =>
                refine ⟨k + 1, by go_num, hlt, u64_v ?_, Lib.hid (fun j h1 h2 => by omega), HE.out.drewN 1, belowN HB4.out 1⟩
                rw [Nat.min_eq_left (show k + 1 ≤ n from hkn), shl_V, or_V]
                show _ = ((lst s.r (el s.P) k ||| s.r k <<< el s.P k : V).toNat : Int)
                rw [HX.out, HPK.out]
              case measure => simp [intOf]; omega)
          · have hmin : min k n = min (k + 1) n := by omega
            by_cases hone : (s.r k).toNat = 1
            · have hsg : sing R.length s = true := (sing_iff _ _).2 ⟨k, by rw [HN.out]; omega, hlt, hone⟩
              have hone2 : ((s.r k).toNat : Int) = 1 := by omega
              rw [hone2] at ck
              have HSG := Lib.hid hsg
              clear hsg hone hone2 hmin
              go_wp2_with fail
              refine bodyPost_ret (v := .tuple #[.int .u64 0, .int .i64 6]) (by simp [results, Try.results30, go_sem]) rfl ⟨by rw [HQ0.out, HQ1.out, HSG.out]; rfl, HB4.out⟩
            · have hone2 : ¬ ((s.r k).toNat : Int) = 1 := by omega
              have HMIN := Lib.hid hmin
              clear hmin
              go_wp2_with fail
              go_roundw
              case rel =>
                refine ⟨k + 1, by go_num, hlt, by rw [HMIN.out], Lib.hid (fun j h1 h2 => ?_), HE.out, HB4.out⟩
                by_cases e : j = k
                · subst e; exact hone
                · exact HNO.out j h1 (by omega)
              case measure => simp [intOf]; omega
        · obtain rfl : k = R.length := by omega
          have hsg : sing R.length s = false := by
            cases h : sing R.length s with
            | false => rfl
            | true =>
              obtain ⟨j, h1, h2, h3⟩ := (sing_iff _ _).1 h
              rw [HN.out] at h1
              exact absurd h3 (HNO.out j h1 h2)
          have HSG := Lib.hid hsg
          rw [Nat.min_eq_right hpl]
          clear hsg
          go_wp2_with fail
          refine bodyPost_ret (v := .tuple #[.int .u64 ((lst s.r (el s.P) n).toNat : Int), .int .i64 0]) (by simp [results, Try.results30, go_sem]) rfl ⟨by rw [HQ0.out, HQ1.out, HSG.out, ← HN.out]; rfl, HB4.out⟩
end Go.Proofs.Ytgaanojfjaifhaa.B
