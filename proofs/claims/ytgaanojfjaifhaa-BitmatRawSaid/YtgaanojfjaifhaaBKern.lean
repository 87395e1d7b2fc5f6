/- bitmat.Kernel. -/
import Derived.Test.YtgaanojfjaifhaaBSolve
namespace Go.Proofs.Ytgaanojfjaifhaa.B
open Go Go.RowKit Go.Shelf
open BM (St)

/-- The vectors for the columns that are no pivots, of the j highest columns. -/
def kerL (P : List Nat) (f : Nat → V) (C : Nat) : Nat → List V
  | 0 => []
  | j + 1 => kerL P f C j ++ (if P.contains (C - 1 - j) then [] else [f (C - 1 - j)])
theorem kerL_len (P : List Nat) (f : Nat → V) (C : Nat) : ∀ j, (kerL P f C j).length ≤ j
  | 0 => Nat.le_refl _
  | j + 1 => by
    have := kerL_len P f C j
    unfold kerL
    rw [List.length_append]
    split
    · simp only [List.length_nil]; omega
    · simp only [List.length_cons, List.length_nil]; omega
def kernE (C : Int) (R : List V) : Int := if validB C R then 0 else 1
def balS (s : St) (c : Nat) : V := bal s.R (el s.P) c s.P.length
def kernS (C : Nat) (R : List V) : St := sv C R (fun _ => 0)
def kernL (C : Int) (R : List V) : List V := if validB C R then kerL (kernS C.toNat R).P (balS (kernS C.toNat R)) C.toNat C.toNat else []
def KernCut (w : World) (D : Nat) (R : List V) (v : Value) (W : World) : Prop :=
  ∃ g gr cr gx cx, v = .pointer (some ⟨g, 0, none⟩) ∧ Sys W (w.heap.size + 1) g R.length D gr cr gx cx (kernS D R) ∧ Below w.heap.size w W
def KernRel (w3 : World) (D : Nat) (P : List Nat) (f : Nat → V) (b i : Value) (W : World) : Prop :=
  ∃ (j c' : Nat) (a' : Option Addr), i = .int .i64 ((D : Int) - 1 - (j : Int)) ∧ j ≤ D ∧ b = .slice a' (kerL P f D j).length c' ∧ Own W w3.heap.size (.slice a' (kerL P f D j).length c') (kerL P f D j) ∧ Below w3.heap.size w3 W
/-- The value is a list of vectors that lies from block B on. -/
def ListR (B : Nat) (W : World) (v : Value) (L : List V) : Prop := ∃ a c, v = .slice a L.length c ∧ Row W a L c ∧ ∀ b o, a = some ⟨b, o, none⟩ → B ≤ b

set_option maxRecDepth 100000 in
set_option maxHeartbeats 1000000 in
/-- **bitmat.Kernel** -/
theorem kernel_any (C : Int) (a : Option Addr) (ca : Nat) (R : List V) (w : World) (hA : Row w a R ca) :
    Calls Try.prog 31 #[.agg #[.int .i64 C, .slice a R.length ca]] w fun e W => (∃ v, e = .returned (.tuple #[v, .int .i64 (kernE C R)]) ∧ ListR w.heap.size W v (kernL C R)) ∧ Below w.heap.size w W := by
  have hbx := MBox.new w C a R.length ca 24
  have hb1 := (Below.refl w.heap.size w).alloc (Nat.le_refl _) (.cells #[.int .i64 C, .slice a R.length ca] 24)
  have hr1 := hA.alloc (.cells #[.int .i64 C, .slice a R.length ca] 24)
  obtain ⟨w1, hw1⟩ : ∃ w1, w.alloc (.cells #[.int .i64 C, .slice a R.length ca] 24) = w1 := ⟨_, rfl⟩
  have hs1 : w1.heap.size = w.heap.size + 1 := by rw [← hw1]; simp
  rw [hw1] at hbx hb1 hr1
  have hv1 := valid_any C a ca R w1 hr1
  have a0 := hbx.c0
  have a1 := hbx.c1
  have HBX := Lib.hid hbx
  have HB1 := Lib.hid hb1
  have HR1 := Lib.hid hr1
  have HS1 := Lib.hid hs1
  clear hA hbx hb1 hr1 hs1
  cases hva : validB C R with
  | false =>
    have e0 : kernE C R = 1 := by unfold kernE; rw [hva]; rfl
    have e1 : kernL C R = [] := by unfold kernL; rw [hva]; rfl
    rw [e0, e1]
    rw [hva] at hv1
    have H1 := Lib.hid hv1
    clear hv1 hva e0 e1
    go_enter Try.func31, Try.ntmps31
    go_wp2_with fail
    refine H1.out.mono ?_
    rintro e w2 ⟨rfl, hb2⟩
    have HB2 := Lib.hid (HB1.out.trans (hb2.mono HB1.out.size))
    clear hb2
    go_wp2_with fail
    exact bodyPost_ret (v := .tuple #[.slice none 0 0, .int .i64 1]) (by simp [results, Try.results31, go_sem]) rfl ⟨⟨_, rfl, none, 0, rfl, Row.nil _ _ _ (by omega), fun b o e => by cases e⟩, HB2.out⟩
  | true =>
    obtain ⟨D, rfl, hM⟩ := MV.of hva
    have e0 : kernE D R = 0 := by unfold kernE; rw [hva]; rfl
    have e1 : kernL D R = kerL (kernS D R).P (balS (kernS D R)) D D := by unfold kernL; rw [hva, Int.toNat_natCast]; rfl
    rw [e0, e1]
    rw [hva] at hv1
    have H1 := Lib.hid hv1
    have l1 := hM.r1
    have l2 := hM.r2
    have l3 := hM.c1
    have l4 := hM.c2
    clear hv1 hva e0 e1
    go_enter Try.func31, Try.ntmps31
    go_wp2_with fail
    refine H1.out.mono ?_
    rintro e w2 ⟨rfl, hb2⟩
    have HB2 := Lib.hid (HB1.out.trans (hb2.mono HB1.out.size))
    have d0 := cell_below hb2 a0
    have d1 := cell_below hb2 a1
    have hr2 := HR1.out.below hb2
    have hs2 := hb2.size
    obtain ⟨mk, hmk, hown⟩ := make_fact (α := V) R.length (by omega)
    have hmk' : ∀ W : World, (Instr.makeSlice 22 (.int .i64 (R.length : Int)) (.int .i64 (R.length : Int))).run Try.prog W = .ok (.slice (some ⟨W.heap.size, 0, none⟩) R.length R.length) (W.alloc mk) := hmk
    have k0 := cell_later mk d0
    have k1 := cell_later mk d1
    have ho := hown w2 w2.heap.size (Nat.le_refl _)
    rw [tab_replicate] at ho
    have hsl := solved_any (w2.alloc mk).drew w2.heap.size D w2.heap.size R.length a ca R (fun _ => 0) (by simp) l4 l1 l2 ((hr2.alloc mk).drewN 1) ho
    have HSL := Lib.hid hsl
    have HMK := Lib.hid ((Below.refl w2.heap.size w2).alloc (Nat.le_refl _) mk)
    clear hb2 hr2 hmk hown ho hsl H1 a0 a1
    go_upto_region 3 with fail
    go_cut [4] (fun s4 wx => KernCut w D R s4 wx)
    case first =>
      go_region_law (go_simp; go_at_call 35; (with_reducible refine HSL.out.mono ?_); rintro e w3 ⟨⟨g, gr, cr, rfl, hS⟩, hb3⟩; have HS := Lib.hid hS; have HB3 := Lib.hid hb3; clear hS hb3; go_simp)
      all_goals (
        go_wp2_with fail
        go_meet
        have h1 := HS1.out
        exact ⟨g, gr, cr, _, _, rfl, HS.out.mono (by omega), HB2.out.trans ((HMK.out.trans (belowK HB3.out)).mono HB2.out.size)⟩)
    case rest =>
      obtain ⟨g, gr, cr, gx, cx, rfl, hS, hBw⟩ := hcut
      have c0 := hS.c0
      have HS := Lib.hid hS
      have HBw := Lib.hid hBw
      have hPl : (kernS D R).P.length ≤ R.length := sv_len D R _
      have HPV := Lib.hid (sv_piv D R (fun _ => 0))
      clear hS hBw d0 d1 k0 k1 HSL HMK HB2
      go_wp2_with fail
      go_loopw [5, 6] (fun b i wr => KernRel wc D (kernS D R).P (balS (kernS D R)) b i wr) (fun _ i _ => (intOf i + 1).toNat)
      case atStart => exact ⟨0, 0, none, by first | rfl | (congr 1; omega), Nat.zero_le _, rfl, Own.nil _ _, Below.refl _ _⟩
      case round =>
        clear c0
        obtain ⟨j, c', a', rfl, hj, rfl, ho, hB⟩ := hrel
        by_cases hlt : j < D
        · obtain ⟨col, hcol⟩ : ∃ col : Nat, col + 1 + j = D := ⟨D - 1 - j, by omega⟩
          have e1 : (D : Int) - 1 - (j : Int) = (col : Int) := by omega
          have e2 : D - 1 - j = col := by omega
          have hwd : wrap64 ((col : Int) - 1) = (col : Int) - 1 := by unfold wrap64; omega
          rw [e1]
          have hS' := HS.out.below hB
          obtain ⟨ap, cp, c3, hp, hp1, hp2⟩ := hS'.pivots
          have hct := contains_any ap cp _ col wr hp
          have hlen := kerL_len (kernS D R).P (balS (kernS D R)) D j
          have HO := Lib.hid ho
          have HB := Lib.hid hB
          have HS' := Lib.hid hS'
          have hsz := hB.size
          have E2 := Lib.hid e2
          have E3 := Lib.hid hcol
          cases hpc : (kernS D R).P.contains col with
          | true =>
            have hk1 : kerL (kernS D R).P (balS (kernS D R)) D (j + 1) = kerL (kernS D R).P (balS (kernS D R)) D j := by
              show kerL (kernS D R).P (balS (kernS D R)) D j ++ (if (kernS D R).P.contains (D - 1 - j) then [] else _) = _
              rw [E2.out, hpc, if_pos rfl, List.append_nil]
            rw [hpc] at hct
            have HK1 := Lib.hid hk1
            have HCT := Lib.hid hct
            clear hct hpc hk1 hp hS' ho hB e1 e2 hcol
            go_wp2_with fail
            refine HCT.out.mono ?_
            rintro e w4 ⟨rfl, hw⟩
            obtain rfl := hw.symm
            go_wp2_with fail
            go_roundw
            case rel =>
              have h3 := E3.out
              exact ⟨j + 1, c', a', congrArg (Value.int .i64) (by omega), by omega, by rw [HK1.out], by rw [HK1.out]; exact HO.out, HB.out⟩
            case measure => have h3 := E3.out; simp [intOf]; try omega
          | false =>
            have hk1 : kerL (kernS D R).P (balS (kernS D R)) D (j + 1) = kerL (kernS D R).P (balS (kernS D R)) D j ++ [balS (kernS D R) col] := by
              show kerL (kernS D R).P (balS (kernS D R)) D j ++ (if (kernS D R).P.contains (D - 1 - j) then [] else [balS (kernS D R) (D - 1 - j)]) = _
              rw [E2.out, hpc]
              rfl
            rw [hpc] at hct
            have hbal := balance_any wr _ g R.length D gr cr gx cx col (kernS D R) hPl (fun i hi => Nat.lt_of_lt_of_le (HPV.out i hi) l4) (by omega) hS'
            have HK1 := Lib.hid hk1
            have HCT := Lib.hid hct
            have HBA := Lib.hid hbal
            clear hct hpc hk1 hp hS' ho hB e1 e2 hbal
            go_wp2_with fail
            refine HCT.out.mono ?_
            rintro e w4 ⟨rfl, hw⟩
            obtain rfl := hw.symm
            go_wp2_with fail
            refine HBA.out.mono ?_
            rintro e w5 ⟨rfl, hw⟩
            obtain rfl := hw.symm
            go_wp2_with (at_builtin; refine wpList_app1 (α := V) rfl _ _ rfl (balS (kernS D R) col) rfl (HO.out.alloc _) rfl (cell_new _ _ _) (by omega) (by simp; omega) ?_; intro a3 cap3 w6 hown3 hg3 hb3 hw3)
            go_roundw
            case rel =>
              have h3 := E3.out
              have hlq : (kerL (kernS D R).P (balS (kernS D R)) D (j + 1)).length = (kerL (kernS D R).P (balS (kernS D R)) D j).length + 1 := by rw [HK1.out, List.length_append]; rfl
              refine ⟨j + 1, cap3, a3, congrArg (Value.int .i64) (by omega), by omega, by rw [hlq], by rw [hlq, HK1.out]; exact hown3, ?_⟩
              exact HB.out.trans (((Below.refl wc.heap.size wr).alloc hsz _).trans hb3)
            case measure => have h3 := E3.out; simp [intOf]; try omega
        · obtain rfl : j = D := by omega
          have HO := Lib.hid ho
          have HB := Lib.hid hB
          have hneg : ¬ (0 : Int) ≤ (j : Int) - 1 - (j : Int) := by omega
          clear ho hB
          go_wp2_with fail
          refine bodyPost_ret (v := .tuple #[.slice a' (kerL (kernS j R).P (balS (kernS j R)) j j).length c', .int .i64 0]) (by simp [results, Try.results31, go_sem]) rfl ⟨⟨_, rfl, a', c', rfl, HO.out.rowAt, fun b o e => ?_⟩, HBw.out.trans (HB.out.mono HBw.out.size)⟩
          subst e
          rcases HO.out.parts with ⟨e2, _⟩ | ⟨gg, c2, e2, hBg, _⟩
          · cases e2
          · cases e2
            exact Nat.le_trans HBw.out.size hBg
end Go.Proofs.Ytgaanojfjaifhaa.B
