/- ref05.Kernel. -/
import Derived.Test.YtgaanojfjaifhaaBRef6
import Derived.Test.YtgaanojfjaifhaaBKern
namespace Go.Proofs.Ytgaanojfjaifhaa.B
open Go Go.RowKit Go.Shelf
open BM (bt St)

theorem contains_iff (P : List Nat) (c : Nat) : P.contains c = true ↔ ∃ j, j < P.length ∧ el P j = c := by
  rw [List.contains_eq_mem, decide_eq_true_eq]
  constructor
  · intro h
    obtain ⟨j, hj, e⟩ := List.getElem_of_mem h
    exact ⟨j, hj, by rw [← e]; exact el_lt hj⟩
  · rintro ⟨j, hj, e⟩
    rw [← e]
    exact el_mem hj
/-- One of the first i leading columns is c. -/
def ldg (P : Nat → Nat) (c : Nat) : Nat → Bool
  | 0 => false
  | i + 1 => ldg P c i || decide (P i = c)
theorem ldg_iff (P : Nat → Nat) (c : Nat) : ∀ i, ldg P c i = true ↔ ∃ j, j < i ∧ P j = c
  | 0 => by
    constructor
    · intro h; cases h
    · rintro ⟨j, h, _⟩; exact absurd h (Nat.not_lt_zero j)
  | i + 1 => by
    unfold ldg
    rw [Bool.or_eq_true, ldg_iff P c i, decide_eq_true_eq]
    constructor
    · rintro (⟨j, h1, h2⟩ | h)
      · exact ⟨j, by omega, h2⟩
      · exact ⟨i, Nat.lt_succ_self i, h⟩
    · rintro ⟨j, h1, h2⟩
      by_cases e : j = i
      · subst e; exact .inr h2
      · exact .inl ⟨j, by omega, h2⟩
theorem ldg_contains (P : List Nat) (c : Nat) : P.contains c = ldg (el P) c P.length := by
  rw [Bool.eq_iff_iff, contains_iff, ldg_iff]

set_option maxRecDepth 100000 in
set_option maxHeartbeats 1000000 in
/-- **ref05.Kernel** -/
theorem rkernel_any (C : Int) (a : Option Addr) (ca : Nat) (R : List V) (w : World) (hA : Row w a R ca) :
    Calls Try.prog 32 #[.agg #[.int .i64 C, .slice a R.length ca]] w fun e W => (∃ v, e = .returned (.tuple #[v, .int .i64 (kernE C R)]) ∧ ListR w.heap.size W v (kernL C R)) ∧ Below w.heap.size w W := by
  have hbx := MBox.new w C a R.length ca 24
  have hb1 := (Below.refl w.heap.size w).alloc (Nat.le_refl _) (.cells #[.int .i64 C, .slice a R.length ca] 24)
  have hr1 := hA.alloc (.cells #[.int .i64 C, .slice a R.length ca] 24)
  obtain ⟨w1, hw1⟩ : ∃ w1, w.alloc (.cells #[.int .i64 C, .slice a R.length ca] 24) = w1 := ⟨_, rfl⟩
  have hs1 : w1.heap.size = w.heap.size + 1 := by rw [← hw1]; simp
  rw [hw1] at hbx hb1 hr1
  have hv1 := rvalid_any C a ca R w1 hr1
  have a0 := hbx.c0
  have a1 := hbx.c1
  have HBX := Lib.hid hbx
  have HB1 := Lib.hid hb1
  have HR1 := Lib.hid hr1
  have HS1 := Lib.hid hs1
  clear hA hbx hb1 hr1 hs1
  cases hva : validB C R with
  | false =>
    have e0 : kernE C R = 1 := by unfold kernE; rw [hva]; rfl
    have e1 : kernL C R = [] := by unfold kernL; rw [hva]; rfl
    rw [e0, e1]
    rw [hva] at hv1
    have H1 := Lib.hid hv1
    clear hv1 hva e0 e1
    go_enter Try.func32, Try.ntmps32
    go_wp2_with fail
    refine H1.out.mono ?_
    rintro e w2 ⟨rfl, hb2⟩
    have HB2 := Lib.hid (HB1.out.trans (hb2.mono HB1.out.size))
    clear hb2
    go_wp2_with fail
    refine bodyPost_ret (v := .tuple #[.slice none 0 0, .int .i64 1]) (by simp [results, Try.results32, go_sem]) rfl ⟨⟨_, rfl, none, 0, rfl, Row.nil _ _ _ (by omega), fun _ _ e => nomatch e⟩, HB2.out⟩
  | true =>
    obtain ⟨D, rfl, hM⟩ := MV.of hva
    rw [hva] at hv1
    have H1 := Lib.hid hv1
    have l1 := hM.r1
    have l2 := hM.r2
    have l4 := hM.c2
    have HM := Lib.hid hM
    have e0 : kernE D R = 0 := by unfold kernE; rw [hva]; rfl
    have e1 : kernL D R = kerL (ek R 0 D).P (balS (ek R 0 D)) D D := by
      unfold kernL kernS; rw [hva, Int.toNat_natCast]
      have : sv D R (fun _ => 0) = ek R 0 D := by
        unfold sv ek
        congr 2
        funext j
        unfold rhs
        rw [BM.bt_zero]
        rfl
      rw [this]; rfl
    rw [e0, e1]
    obtain ⟨LL, hLL⟩ : ∃ LL, kerL (ek R 0 D).P (balS (ek R 0 D)) D D = LL := ⟨_, rfl⟩
    rw [hLL]
    have HLL := Lib.hid hLL
    clear hv1 hva hM e0 e1 hLL
    go_enter Try.func32, Try.ntmps32
    go_wp2_with fail
    refine H1.out.mono ?_
    rintro e w2 ⟨rfl, hb2⟩
    have HB2 := Lib.hid (HB1.out.trans (hb2.mono HB1.out.size))
    have d0 := cell_below hb2 a0
    have d1 := cell_below hb2 a1
    have HR2 := Lib.hid (HR1.out.below hb2)
    have HEC := Lib.hid (echelon_any D a ca R 0 w2 HR2.out HM.out)
    clear hb2 a0 a1
    go_wp2_with fail
    refine HEC.out.mono ?_
    rintro e w4 ⟨gr, cr, gx, cx, ap, cp, rfl, hec⟩
    have f0 : w4.cell? ⟨w.heap.size, 0, none⟩ = some (.int .i64 (D : Int)) := cell_below hec.below d0
    have HB4 := Lib.hid (HB2.out.trans (hec.below.mono HB2.out.size))
    have hpl := ek_le R 0 D
    have HPV := Lib.hid (sv_piv D R (rhs 0))
    obtain ⟨s, hs⟩ : ∃ s, ek R 0 D = s := ⟨_, rfl⟩
    have hs2 : sv D R (rhs 0) = s := hs
    rw [hs2] at HPV
    rw [hs] at hec hpl
    have HSS := Lib.hid hs
    obtain ⟨n, hn⟩ : ∃ n, s.P.length = n := ⟨_, rfl⟩
    have hld := hec.lead.rowAt
    have q1 := hld.room
    have q2 := hld.most
    rw [hn] at hpl q1
    rw [hs, hn]
    have HN := Lib.hid hn
    obtain ⟨r1, r2, r3, r4⟩ := hec.room
    have hrr := hec.rows.rowAt
    have HE := Lib.hid hrr
    have HLD := Lib.hid hld
    clear hn hs hs2 hec hld hrr HEC H1 HR2 HR1 HBX HB1 HS1 d0 d1
    have hwd : wrap64 ((D : Int) - 1) = (D : Int) - 1 := by unfold wrap64; omega
    go_wp2_with fail
    clear f0 hwd
    go_loopw [7, 8, 9, 10, 11, 12] (fun b i _ _ _ _ wr => KernRel w4 D s.P (balS s) b i wr) (fun _ i _ _ _ _ _ => (intOf i + 1).toNat)
    case atStart => exact ⟨0, 0, none, by first | rfl | (congr 1; omega), Nat.zero_le _, rfl, Own.nil _ _, Below.refl _ _⟩
    case round =>
      obtain ⟨j, c', a', rfl, hj, rfl, ho, hB⟩ := hrel
      by_cases hlt : j < D
      · obtain ⟨col, hcol⟩ : ∃ col : Nat, col + 1 + j = D := ⟨D - 1 - j, by omega⟩
        have e1 : (D : Int) - 1 - (j : Int) = (col : Int) := by omega
        have e2 : D - 1 - j = col := by omega
        have hwd : wrap64 ((col : Int) - 1) = (col : Int) - 1 := by unfold wrap64; omega
        rw [e1]
        have hlen := kerL_len s.P (balS s) D j
        have HO := Lib.hid ho
        have HB := Lib.hid hB
        have hsz := hB.size
        have E2 := Lib.hid e2
        have E3 := Lib.hid hcol
        have HEW := Lib.hid (HE.out.below hB)
        have HLW := Lib.hid (HLD.out.below hB)
        clear ho hB e1 e2 hcol
        go_wp2_with fail
        go_loopw [9, 10] (fun bv iv wz => ∃ i : Nat, iv = .int .i64 (i : Int) ∧ i ≤ n ∧ bv = .bool (ldg (el s.P) col i) ∧ wz = wr) (fun _ iv _ => n - (intOf iv).toNat)
        case atStart => exact ⟨0, rfl, Nat.zero_le _, rfl, rfl⟩
        case round =>
          obtain ⟨i, rfl, hi, rfl, hwz⟩ := hrel
          subst hwz
          by_cases hin : i < n
          · obtain ⟨bb, bo, rfl, hcell⟩ := HLW.out.elN i (by rw [HN.out]; exact hin)
            obtain ⟨pi, hpi⟩ : ∃ q, el s.P i = q := ⟨_, rfl⟩
            rw [hpi] at hcell
            have HPI := Lib.hid hpi
            clear hpi
            cases hb : ldg (el s.P) col i with
            | true =>
              have HT := Lib.hid hb
              clear hb hcell
              go_wp2_with fail
              go_roundw
              case rel => exact ⟨i + 1, by go_num, hin, by unfold ldg; rw [HT.out]; rfl, by first | rfl | trivial⟩
              case measure => simp [intOf]; omega
            | false =>
              have HT := Lib.hid hb
              clear hb
              by_cases hpc : pi = col
              · subst hpc
                go_wp2_with fail
                go_roundw
                case rel => exact ⟨i + 1, by go_num, hin, by unfold ldg; rw [HT.out, HPI.out]; simp, by first | rfl | trivial⟩
                case measure => simp [intOf]; omega
              · have hpc2 : ¬ (pi : Int) = (col : Int) := fun h => hpc (Int.ofNat.inj h)
                go_wp2_with fail
                go_roundw
                case rel => exact ⟨i + 1, by go_num, hin, by unfold ldg; rw [HT.out, HPI.out, decide_eq_false hpc]; first | rfl | (rw [beq_false_of_ne hpc2]; rfl), by first | rfl | trivial⟩
                case measure => simp [intOf]; omega
          · obtain rfl : i = n := by omega
            have hcon := ldg_contains s.P col
            rw [HN.out] at hcon
            cases hpc : ldg (el s.P) col i with
            | true =>
              rw [hpc] at hcon
              have hk1 : kerL s.P (balS s) D (j + 1) = kerL s.P (balS s) D j := by
                show kerL s.P (balS s) D j ++ (if s.P.contains (D - 1 - j) then [] else _) = _
                rw [E2.out, hcon, if_pos rfl, List.append_nil]
              have HK1 := Lib.hid hk1
              clear hcon hpc hk1
              go_wp2_with fail
              go_roundw
              case rel =>
                have h3 := E3.out
                exact ⟨j + 1, c', a', congrArg (Value.int .i64) (by omega), by omega, by rw [HK1.out], by rw [HK1.out]; exact HO.out, HB.out⟩
              case measure => have h3 := E3.out; simp [intOf]; try omega
            | false =>
              rw [hpc] at hcon
              have hk1 : kerL s.P (balS s) D (j + 1) = kerL s.P (balS s) D j ++ [balS s col] := by
                show kerL s.P (balS s) D j ++ (if s.P.contains (D - 1 - j) then [] else [balS s (D - 1 - j)]) = _
                rw [E2.out, hcon]
                rfl
              have HK1 := Lib.hid hk1
              have hc64 : col < 64 := by have := E3.out; omega
              clear hcon hpc hk1
              go_wp2_with fail
              go_loopw [11, 12] (fun xv iv wz => ∃ t : Nat, iv = .int .i64 (t : Int) ∧ t ≤ i ∧ xv = .int .u64 ((bal s.R (el s.P) col t).toNat : Int) ∧ Own wz w4.heap.size (.slice a' (kerL s.P (balS s) D j).length c') (kerL s.P (balS s) D j) ∧ Below w4.heap.size w4 wz) (fun _ iv _ => i - (intOf iv).toNat)
              case atStart => exact ⟨0, rfl, Nat.zero_le _, u64_v (by first | exact shl_one col | rfl), HO.out, HB.out⟩
              case round =>
                clear HO HB HEW HLW hsz
                obtain ⟨t, rfl, ht, rfl, ho, hB⟩ := hrel
                have HO := Lib.hid ho
                have HB := Lib.hid hB
                have hsz := hB.size
                by_cases htn : t < i
                · obtain ⟨bb, bo, rfl, hcell⟩ := (HLD.out.below hB).elN t (by rw [HN.out]; exact htn)
                  have hpp := HPV.out t (by rw [HN.out]; exact htn)
                  have hcr := (HE.out.below hB).elV t (by rw [tab_len]; omega)
                  obtain ⟨b2, o2, e2, hcr2⟩ := hcr
                  cases e2
                  rw [el_tab _ _ _ (by omega), Nat.zero_add] at hcr2
                  obtain ⟨x, hx⟩ : ∃ x, s.R t = x := ⟨_, rfl⟩
                  obtain ⟨pk, hpk⟩ : ∃ q, el s.P t = q := ⟨_, rfl⟩
                  rw [hx] at hcr2
                  rw [hpk] at hcell hpp
                  have hpk64 : pk ≤ 64 := by omega
                  have HX := Lib.hid hx
                  have HPK := Lib.hid hpk
                  have hbit := bit_V x col
                  rw [Nat.min_eq_left (show col ≤ 64 by omega)] at hbit
                  clear hx hpk ho hB
                  go_wp2_with fail
                  go_region
                  all_goals (
                    go_wp2_with fail
                    go_roundw
                    case rel =>
                      refine ⟨t + 1, by go_num, htn, u64_v ?_, ?_, belowN HB.out 1⟩
                      · rw [shl_V, or_V]
                        show _ = ((bal s.R (el s.P) col t ||| Go.Proofs.Ytgaanojfjaifhaa.B.b1 (bt (s.R t) col) <<< el s.P t : V).toNat : Int)
                        rw [HX.out, HPK.out]
                      · exact HO.out
                    case measure => simp [intOf]; omega)
                · obtain rfl : t = i := by omega
                  obtain ⟨y, hy⟩ : ∃ y, bal s.R (el s.P) col t = y := ⟨_, rfl⟩
                  have hyb : balS s col = y := by unfold balS; rw [HN.out]; exact hy
                  rw [hy]
                  have HY := Lib.hid hyb
                  clear hy hyb ho hB
                  go_wp2_with (at_builtin; refine wpList_app1 (α := V) rfl _ _ rfl y (by rfl) (HO.out.alloc (.cells #[.int .u64 (y.toNat : Int)] 25)) rfl (cell_new _ _ _) (by omega) (by simp; omega) ?_; intro a3 cap3 w6 hown3 hg3 hb3 hw3; have HO3 := Lib.hid hown3; have HB3 := Lib.hid hb3; clear hown3 hg3 hb3 hw3)
                  go_roundw
                  case rel =>
                    have h3 := E3.out
                    have hlq : (kerL s.P (balS s) D (j + 1)).length = (kerL s.P (balS s) D j).length + 1 := by rw [HK1.out, List.length_append]; rfl
                    refine ⟨j + 1, cap3, a3, congrArg (Value.int .i64) (by omega), by omega, by rw [hlq], by rw [hlq, HK1.out, HY.out]; exact HO3.out, ?_⟩
                    exact HB.out.trans (((Below.refl w4.heap.size _).alloc hsz _).trans HB3.out)
                  case measure => have h3 := E3.out; simp [intOf]; try omega
      · obtain rfl : j = D := by omega
        have HO := Lib.hid ho
        have HB := Lib.hid hB
        have hneg : ¬ (0 : Int) ≤ (j : Int) - 1 - (j : Int) := by omega
        clear ho hB
        go_wp2_with fail
        have hL : LL = kerL s.P (balS s) j j := by rw [← HLL.out, HSS.out]
        refine bodyPost_ret (v := .tuple #[.slice a' (kerL s.P (balS s) j j).length c', .int .i64 0]) (by simp [results, Try.results32, go_sem]) rfl ⟨⟨_, rfl, a', c', by rw [hL], by rw [hL]; exact HO.out.rowAt, fun b o e => ?_⟩, HB4.out.trans (HB.out.mono HB4.out.size)⟩
        subst e
        rcases HO.out.parts with ⟨e2, _⟩ | ⟨gg, c2, e2, hBg, _⟩
        · cases e2
        · cases e2
          exact Nat.le_trans HB4.out.size hBg
end Go.Proofs.Ytgaanojfjaifhaa.B
