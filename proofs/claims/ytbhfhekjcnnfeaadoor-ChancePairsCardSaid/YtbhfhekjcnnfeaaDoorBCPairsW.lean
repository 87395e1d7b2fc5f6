/- ChancePairs: the walk. -/
import Derived.Test.YtbhfhekjcnnfeaaDoorB12
import Derived.Test.YtbhfhekjcnnfeaaDoorBCWb
import Derived.Test.YtbhfhekjcnnfeaaDoorBInt
namespace Go.Proofs.YtbhfhekjcnnfeaaDoor
open Go Go.RowKit Go.Shelf

namespace C
open G G.H
/-- Sets of three with b, counted up to i and k. -/
def pgf (b i k : Nat) : Nat := if i = b then 0 else if k ≤ b then k else k - 1
def pff (b : Nat) : Nat → Nat
  | 0 => 0
  | i + 1 => pff b i + pgf b i i
theorem pff_succ (b i : Nat) : pff b (i + 1) = pff b i + pgf b i i := rfl
theorem pff_all : ∀ b, b < 72 → pff b 72 = 2485 := by decide +kernel
theorem pff_le : ∀ b, b < 72 → ∀ i, i < 73 → pff b i ≤ 2485 := by decide +kernel
theorem pgf_no {b i k : Nat} (h : i = b ∨ k = b) (hk : k < i) : pgf b i (k + 1) = pgf b i k := by
  unfold pgf
  by_cases h1 : i = b
  · rw [if_pos h1, if_pos h1]
  · rw [if_neg h1, if_neg h1]
    have : k = b := by omega
    rw [if_neg (by omega), if_pos (by omega)]; omega
theorem pgf_yes {b i k : Nat} (h1 : i ≠ b) (h2 : k ≠ b) : pgf b i (k + 1) = pgf b i k + 1 := by
  unfold pgf
  rw [if_neg h1, if_neg h1]
  by_cases h3 : k ≤ b
  · rw [if_pos h3, if_pos (by omega)]
  · rw [if_neg h3, if_neg (by omega)]; omega
theorem pgf_zero (b i : Nat) : pgf b i 0 = 0 := by
  unfold pgf
  split
  · rfl
  · split <;> omega
theorem pgf_le (b i k : Nat) : pgf b i k ≤ k := by
  unfold pgf
  split
  · omega
  · split <;> omega
attribute [irreducible] pgf pff
theorem wb_three : 2485 ≤ wbN 3 ∧ wbN 3 ≤ 59640 := by rw [wb_F]; decide +kernel
/-- A bit of a word is turned. -/
theorem flip_own {W : World} {B g q r : Nat} {zs : List G.Y} (h : G.Own W B (.slice (some ⟨g, 0, none⟩) 9 9) zs) (hl : zs.length = 9) (hq : q < 9) (hr : r < 8) :
    ∃ (y1 y2 y3 : Int) (zs' : List G.Y), W.cell? ⟨g, q, none⟩ = some (.int .u8 y1) ∧ W.frozen? ⟨g, q, none⟩ = false ∧ IntKind.u8.wrap ((2 : Int) ^ r) = y2 ∧ bits BinOp.xor IntKind.u8 y1 y2 = y3 ∧ zs'.length = 9 ∧ G.Own (W.setCell ⟨g, q, none⟩ (.int .u8 y3)) B (.slice (some ⟨g, 0, none⟩) 9 9) zs' :=
  ⟨_, _, _, _, h.cellY q (by omega), h.free q (by omega), shl_Y hr, xor_Y (el zs q) ((1 : Y) <<< r), by rw [List.length_set]; exact hl, h.setY q (el zs q ^^^ ((1 : Y) <<< r))⟩
set_option maxRecDepth 100000 in
set_option maxHeartbeats 4000000 in
/-- **ChancePairs** -/
theorem pairs_any (bit : Int) (w : World) :
    Calls Tryd.prog 4 #[.int .i64 bit] w fun e W => e = .returned (.bool true) ∧ Below w.heap.size w W := by
  have HMX := Lib.hid (fun W => G.mod_any bit 72 (by decide) (by decide) W)
  obtain ⟨b, hb, hb72⟩ := G.mod_nat bit 72 (by decide)
  rw [show ((72 : Nat) : Int) = 72 from rfl] at hb
  rw [hb] at HMX
  obtain ⟨qb, hqb⟩ : ∃ q, b / 8 = q := ⟨_, rfl⟩
  obtain ⟨rb, hrb⟩ : ∃ r, b % 8 = r := ⟨_, rfl⟩
  have qb9 : qb < 9 := by omega
  have rb8 : rb < 8 := by omega
  have hqbi : (b : Int) / 8 = (qb : Int) := by omega
  have hrbi : (b : Int) % 8 = (rb : Int) := by omega
  have HPF := Lib.hid (fun i (hi : i ≤ 72) => pff_le b hb72 i (by omega))
  have HPA := Lib.hid (pff_all b hb72)
  clear hb hqb hrb
  go_enter Tryd.func4, Tryd.ntmps4
  go_wp2_with fail
  refine (HMX.out _).mono ?_
  rintro e w' ⟨rfl, rfl⟩
  clear HMX
  go_wp2_with fail
  go_loopw [4, 5] (fun t j wr => ∃ n i : Nat, t = .int .i64 (n : Int) ∧ j = .int .i64 (i : Int) ∧ i ≤ 72 ∧ Hid (n ≤ pff b i) ∧ Hid (Below w.heap.size w wr)) (fun _ j _ => 72 - (intOf j).toNat)
  case atStart => exact ⟨0, 0, rfl, rfl, Nat.zero_le _, Lib.hid (Nat.zero_le _), Lib.hid (Below.refl _ w)⟩
  case round =>
    obtain ⟨n, i, rfl, rfl, hi, HN, HB⟩ := hrel
    by_cases hlt : (i : Int) < 72
    · have hi72 : i < 72 := by omega
      obtain ⟨qi, hqi⟩ : ∃ q, i / 8 = q := ⟨_, rfl⟩
      obtain ⟨ri, hri⟩ : ∃ r, i % 8 = r := ⟨_, rfl⟩
      have qi9 : qi < 9 := by omega
      have ri8 : ri < 8 := by omega
      have hqii : (i : Int) / 8 = (qi : Int) := by omega
      have hrii : (i : Int) % 8 = (ri : Int) := by omega
      clear hqi hri
      go_wp2_with fail
      go_loopw [4, 6] (fun t j wr => ∃ n k : Nat, t = .int .i64 (n : Int) ∧ j = .int .i64 (k : Int) ∧ k ≤ i ∧ Hid (n ≤ pff b i + pgf b i k) ∧ Hid (Below w.heap.size w wr)) (fun _ j _ => i - (intOf j).toNat)
      case atStart => exact ⟨n, 0, rfl, rfl, Nat.zero_le _, Lib.hid (Nat.le_trans HN.out (Nat.le_add_right _ _)), HB⟩
      case round =>
        clear HN HB
        obtain ⟨m, k, rfl, rfl, hk, HN, HB⟩ := hrel
        by_cases hkl : (k : Int) < (i : Int)
        · have hki : k < i := by omega
          by_cases hib : i = b
          · subst hib
            have HN2 := Lib.hid (show m ≤ pff i i + pgf i i (k + 1) by rw [pgf_no (.inl rfl) hki]; exact HN.out)
            clear HN
            have he : ((i : Int) == (i : Int)) = true := by simp
            go_wp2_with fail
            go_roundw
            case rel => exact ⟨m, k + 1, rfl, by go_num, by omega, HN2, HB⟩
            case measure => simp [intOf]; omega
          by_cases hkb : k = b
          · subst hkb
            have HN2 := Lib.hid (show m ≤ pff k i + pgf k i (k + 1) by rw [pgf_no (.inr rfl) hki]; exact HN.out)
            clear HN
            have he : ((i : Int) == (k : Int)) = false := by rw [beq_eq_false_iff_ne]; omega
            have he2 : ((k : Int) == (k : Int)) = true := by simp
            go_wp2_with fail
            go_roundw
            case rel => exact ⟨m, k + 1, rfl, by go_num, by omega, HN2, HB⟩
            case measure => simp [intOf]; omega
          have he : ((i : Int) == (b : Int)) = false := by rw [beq_eq_false_iff_ne]; omega
          have he2 : ((k : Int) == (b : Int)) = false := by rw [beq_eq_false_iff_ne]; omega
          have HN1 := Lib.hid (show m + 1 ≤ pff b i + pgf b i (k + 1) by rw [pgf_yes hib hkb]; have := HN.out; omega)
          have hn1 : m + 1 ≤ 3000 := by have := HN1.out; have := HPF.out i (by omega); have := pgf_le b i (k + 1); omega
          have hwn : IntKind.i64.wrap ((m : Int) + 1) = (m : Int) + 1 := by rw [IntKind.wrap_i64]; omega
          obtain ⟨qk, hqk⟩ : ∃ q, k / 8 = q := ⟨_, rfl⟩
          obtain ⟨rk, hrk⟩ : ∃ r, k % 8 = r := ⟨_, rfl⟩
          have qk9 : qk < 9 := by omega
          have rk8 : rk < 8 := by omega
          have hqki : (k : Int) / 8 = (qk : Int) := by omega
          have hrki : (k : Int) % 8 = (rk : Int) := by omega
          clear hqk hrk
          have hws := HB.out.size
          go_wp2_with (at_make; refine G.wpList_make1 (α := G.Y) rfl _ _ rfl 9 rfl rfl rfl (by decide) (B := wr.heap.size) (Nat.le_refl _) ?_; intro w1 hown1 hb1; have HO1 := Lib.hid hown1; have HB1 := Lib.hid (HB.out.trans (hb1.mono hws)); clear hown1 hb1; (obtain ⟨g, hg⟩ : ∃ g, wr.heap.size = g := ⟨_, rfl⟩); (rw [hg] at HO1); (rw [hg]); (have hgw : w.heap.size ≤ g := by omega); (have hz1 : (List.replicate 9 (G.Elt.z : G.Y)).length = 9 := by simp); (obtain ⟨y11, y12, y13, zs1, hcq1, hfq1, hsh1, hxy1, hz2, hst1⟩ := flip_own (q := qb) (r := rb) HO1.out hz1 qb9 rb8); (obtain ⟨w2, hn1⟩ : ∃ u, w1.setCell ⟨g, qb, none⟩ (.int .u8 y13) = u := ⟨_, rfl⟩); (have hbw1 : Below w.heap.size w w2 := by rw [← hn1]; exact HB1.out.setCell (p := ⟨g, qb, none⟩) hgw _); (rw [hn1] at hst1); (have HO2 := Lib.hid hst1); (have HB2 := Lib.hid hbw1); (clear hst1 hbw1); (obtain ⟨y21, y22, y23, zs2, hcq2, hfq2, hsh2, hxy2, hz3, hst2⟩ := flip_own (q := qi) (r := ri) HO2.out hz2 qi9 ri8); (obtain ⟨w3, hn2⟩ : ∃ u, w2.setCell ⟨g, qi, none⟩ (.int .u8 y23) = u := ⟨_, rfl⟩); (have hbw2 : Below w.heap.size w w3 := by rw [← hn2]; exact HB2.out.setCell (p := ⟨g, qi, none⟩) hgw _); (rw [hn2] at hst2); (have HO3 := Lib.hid hst2); (have HB3 := Lib.hid hbw2); (clear hst2 hbw2); (obtain ⟨y31, y32, y33, zs3, hcq3, hfq3, hsh3, hxy3, hz4, hst3⟩ := flip_own (q := qk) (r := rk) HO3.out hz3 qk9 rk8); (obtain ⟨w4, hn3⟩ : ∃ u, w3.setCell ⟨g, qk, none⟩ (.int .u8 y33) = u := ⟨_, rfl⟩); (have hbw3 : Below w.heap.size w w4 := by rw [← hn3]; exact HB3.out.setCell (p := ⟨g, qk, none⟩) hgw _); (rw [hn3] at hst3); (have HO4 := Lib.hid hst3); (have HB4 := Lib.hid hbw3); (clear hst3 hbw3); (have hrow : G.Row w4 (some ⟨g, 0, none⟩) zs3 9 := (show G.Own w4 _ (.slice (some ⟨g, 0, none⟩) zs3.length 9) zs3 by rw [hz4]; exact HO4.out).rowAt); (have HDC := Lib.hid (decode_yes (some ⟨g, 0, none⟩) zs3 9 w4 hrow hz4)); (clear hrow HO1 HO2 HO3 HB1 HB2 HB3 HO4))
          refine HDC.out.mono ?_
          intro e w5 hdec
          obtain ⟨a5, c5, a6, c6, rfl, _, _, hb5⟩ := hdec
          obtain ⟨d, hd⟩ : ∃ d : Int, ((decO (syn zs3 72) : Nat) : Int) = d := ⟨_, rfl⟩
          rw [hd]
          have HB5 := Lib.hid (HB4.out.trans (hb5.mono HB4.out.size))
          clear hb5 HB4 HDC hcq1 hfq1 hsh1 hxy1 hn1 hcq2 hfq2 hsh2 hxy2 hn2 hcq3 hfq3 hsh3 hxy3 hn3 hd
          by_cases hd2 : d = 2
          · have hde : (d == 2) = true := by rw [hd2]; rfl
            have hdn : (d != 2) = false := by rw [hd2]; rfl
            have HN2 := Lib.hid (show m ≤ pff b i + pgf b i (k + 1) by have := HN1.out; omega)
            clear hd2
            go_wp2_with fail
            go_roundw
            case rel => exact ⟨m, k + 1, rfl, by go_num, by omega, HN2, Lib.hid (HB5.out.alloc HB5.out.size _)⟩
            case measure => simp [intOf]; omega
          · have hde : (d == 2) = false := by rw [beq_eq_false_iff_ne]; exact hd2
            have hdn : (d != 2) = true := by simp only [bne, hde]; rfl
            clear hd2
            go_wp2_with fail
            go_roundw
            case rel => exact ⟨m + 1, k + 1, by go_num, by go_num, by omega, HN1, Lib.hid (HB5.out.alloc HB5.out.size _)⟩
            case measure => simp [intOf]; omega
        · obtain rfl : k = i := by omega
          go_wp2_with fail
          go_roundw
          case rel => exact ⟨m, k + 1, rfl, by go_num, by omega, Lib.hid (by rw [pff_succ]; exact HN.out), HB⟩
          case measure => simp [intOf]; omega
    · obtain rfl : i = 72 := by omega
      have HWB := Lib.hid (fun W => (show Calls Tryd.prog 17 #[.int .i64 3] W fun e W' => NumE (wbN 3) e W' ∧ Below W.heap.size W W' from wrongBits_any 3 (by decide) W))
      have hv := wb_three
      obtain ⟨V, hV⟩ : ∃ V, wbN 3 = V := ⟨_, rfl⟩
      rw [hV] at HWB hv
      have hnv : n ≤ 2485 := by have := HN.out; rw [HPA.out] at this; exact this
      have hle : (n : Int) ≤ (V : Int) := by omega
      have hle2 : (V : Int) ≤ 59640 := by omega
      have hVb : (V : Int) ≤ 4611686018427387904 := by omega
      clear hv hV hnv HN HPA HPF
      go_wp2_with fail
      (with_reducible refine (HWB.out _).mono ?_)
      rintro e wA ⟨⟨sA, cA, rfl, hr⟩, hb⟩
      have hv := Var.new hr
      obtain ⟨pA, hpA⟩ : ∃ p, wA.heap.size = p := ⟨_, rfl⟩
      obtain ⟨wB, hwB⟩ : ∃ wB, wA.alloc (.cells #[.slice sA (M.dig V).length cA] 31) = wB := ⟨_, rfl⟩
      have hbw : Below wA.heap.size wA wB := by rw [← hwB]; exact (Below.refl _ wA).alloc (Nat.le_refl _) _
      rw [hwB, hpA] at hv
      have hb2 := hb.trans (hbw.mono hb.size)
      have cv := hv.cell
      have HIN := Lib.hid (int_any sA cA V wB hVb hv.row)
      have HBB := Lib.hid (HB.out.trans (hb2.mono HB.out.size))
      clear hr hv hb hbw hb2 HB HWB hVb
      go_wp2_with fail
      (with_reducible refine HIN.out.mono ?_)
      rintro e wC ⟨rfl, hb⟩
      have HBC := Lib.hid (HBB.out.trans (hb.mono HBB.out.size))
      clear hb HBB HIN cv
      go_wp2_with fail
      refine (awake_yes _).mono ?_
      rintro e wD ⟨rfl, hb⟩
      have HBD := Lib.hid (HBC.out.trans (hb.mono HBC.out.size))
      clear hb HBC
      go_wp2_with fail
      go_ret
      exact ⟨rfl, HBD.out⟩
end C
end Go.Proofs.YtbhfhekjcnnfeaaDoor
